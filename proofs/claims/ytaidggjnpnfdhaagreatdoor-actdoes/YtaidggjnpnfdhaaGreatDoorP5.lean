/- The texts Oc, Od, Ob, Oe, Of, Og, Oh, Oi, Oj, Zn, in one. -/
import Derived.Test.YtaidggjnpnfdhaaGreatDoorP4
import Derived.Deep.RegionHeld3
import Derived.Deep.DeepCutAuto
import Derived.Maps.OwnSet
import Derived.Lib.OwnBridge
import Derived.Lib.AppendZeros
import Derived.Sort.Grow
import Derived.Maps.AppendAt
namespace Go.Proofs.YtaidggjnpnfdhaaGreatDoor
open Go.RowKit

/-- A slice of n actions: what is read, and the bounds. -/
structure At (w : World) (A : Option Addr) (n c : Nat) (l : List Ac) : Prop where
  len : l.length = n
  rd : Rd w A (actV l)
  cap : n ≤ c
  big : n ≤ 100000
  capm : c ≤ 9223372036854775807
  sz : ∀ a ∈ l, a.1.size < 4294967281 ∧ a.2.2.size ≤ 140737488355328
theorem At.below {w w' : World} {A : Option Addr} {n c : Nat} {l : List Ac} (h : At w A n c l) (hb : Below w.heap.size w w') : At w' A n c l := ⟨h.len, h.rd.below hb, h.cap, h.big, h.capm, h.sz⟩
theorem OwnF.mono {base base' : Nat} {w : World} {A : Option Addr} {n c : Nat} {fs : List Fil} (h : OwnF base w A n c fs) (hb : base' ≤ base) : OwnF base' w A n c fs := by
  obtain ⟨h1, h2, h3, h4⟩ := h
  refine ⟨h1, h2, h3, ?_⟩
  rcases h4 with h4 | ⟨g, rest, ha, hg, hB⟩
  · exact .inl h4
  · exact .inr ⟨g, rest, ha, by omega, hB⟩

set_option maxHeartbeats 1000000 in
theorem acopied_any {w : World} {A : Option Addr} {n c : Nat} {fs : List Fil} (h : Ft w A n c fs) (hn : n ≤ 1000000) :
    Calls Tryz.prog 24 #[.slice A n c] w fun e w' => e = .returned (.slice (some ⟨w.heap.size, 0, none⟩) n n) ∧ Blk w' w.heap.size (filV fs) 38 ∧ Below w.heap.size w w' := by
  have hmk := make_files n hn
  have HL := hid h.len
  have HS := hid h.sz
  have hr := h.rd
  clear h
  go_enter Tryz.func24, Tryz.ntmps24
  go_upto_region 3 with (fail)
  go_loopw [11] (fun i wr => ∃ j : Nat, j ≤ n ∧ i = .int .i64 j ∧ Blk wr w.heap.size (fill (filV fs) zS (j * 2)) 38 ∧ Below w.heap.size w wr) (fun i _ => n - (intOf i).toNat)
  case atStart =>
    refine ⟨0, by omega, rfl, ?_, (Below.refl _ _).alloc (Nat.le_refl _) _⟩
    have := Blk.new w (List.replicate (n * 2) zS) 38
    rw [Nat.zero_mul, fill_zero, filV_length, HL.out]
    simpa using this
  case round =>
    obtain ⟨j, hj, rfl, hblk, hb⟩ := hrel
    by_cases hjn : j < n
    · have hjl : j < fs.length := by rw [HL.out]; exact hjn
      have hr1 := hr.below hb
      obtain ⟨b, off, rfl, h1, h2, -⟩ := hr1.fil hjl
      have hz : (0 : Int) ≤ j := by omega
      have hlt : (j : Int) < n := by omega
      have HX0 := hid (filV_at0 fs j hjl)
      have HX1 := hid (filV_at1 fs j hjl)
      have hsz := HS.out fs[j] (List.getElem_mem hjl)
      have hll := filV_length fs
      have hgw := hblk.lt
      clear hr1
      go_upto_region 5 with (fail)
      have hblk2 := hblk.below ((Below.refl _ _).alloc (Nat.le_refl _) (.cells #[.string fs[j].1, .string fs[j].2] 38))
      have hb2 := hb.alloc hb.size (.cells #[.string fs[j].1, .string fs[j].2] 38)
      have k := Blk.new wr [.string fs[j].1, .string fs[j].2] 38
      have k1 := k.cell 0
      have k2 := k.cell 1
      simp only [List.getElem?_cons_zero, List.getElem?_cons_succ] at k1 k2
      clear hblk hb h1 h2
      generalize fs[j] = f at *
      obtain ⟨x, d⟩ := f
      simp only at hsz k1 k2 HX0 HX1
      generalize wr.alloc (.cells #[.string x, .string d] 38) = wa at *
      generalize wr.heap.size = g at *
      have hne : g ≠ w.heap.size := by omega
      refine wp_region_held_drew (S := fun w' => w'.cell? ⟨g, 0, none⟩ = some (.string x) ∧ w'.cell? ⟨g, 1, none⟩ = some (.string d)) (by kernel_rfl) ⟨k1, k2⟩ (fun hHeld => ?_)
      refine wpAnyH_take (i := 0) (oi := ⟨_, _, _, _, _, _⟩) (v := ?_) rfl (by kernel_rfl) (by kernel_rfl) (by kernel_rfl) (fun _ _ _ h => h) (Or.inl ⟨by rfl, ?_⟩) (by assumption) ?_
      rotate_left
      · intro w hSw; (try dsimp only at hSw); go_simp; (try (with_reducible rfl))
      try simp only [Act.put, List.setIfInBounds_toArray, List.set_cons_zero, List.set_cons_succ]
      refine wpAnyH_take (i := 1) (oi := ⟨_, _, _, _, _, _⟩) (v := ?_) rfl (by kernel_rfl) (by kernel_rfl) (by kernel_rfl) (fun _ _ _ h => h) (Or.inl ⟨by rfl, ?_⟩) (by assumption) ?_
      rotate_left
      · intro w hSw; (try dsimp only at hSw); go_simp; (try (with_reducible rfl))
      try simp only [Act.put, List.setIfInBounds_toArray, List.set_cons_zero, List.set_cons_succ]
      refine wpAnyH_take (i := 2) (oi := ⟨_, _, _, _, _, _⟩) (v := ?_) rfl (by kernel_rfl) (by kernel_rfl) (by kernel_rfl) (fun _ _ _ h => h) (Or.inl ⟨by rfl, ?_⟩) (by assumption) ?_
      rotate_left
      · intro w hSw; (try dsimp only at hSw); go_simp; (try (with_reducible rfl))
      try simp only [Act.put, List.setIfInBounds_toArray, List.set_cons_zero, List.set_cons_succ]
      refine wpAnyH_take (i := 3) (oi := ⟨_, _, _, _, _, _⟩) (v := ?_) rfl (by kernel_rfl) (by kernel_rfl) (by kernel_rfl) (fun _ _ _ h => h) (Or.inl ⟨by rfl, ?_⟩) (by assumption) ?_
      rotate_left
      · intro w hSw; (try dsimp only at hSw); go_simp; (try (with_reducible rfl))
      try simp only [Act.put, List.setIfInBounds_toArray, List.set_cons_zero, List.set_cons_succ]
      refine wpAnyH_take (i := 5) (oi := ⟨_, _, _, _, _, _⟩) (v := ?_) rfl (by kernel_rfl) (by kernel_rfl) (by kernel_rfl) (fun _ _ _ h => h) (Or.inl ⟨by rfl, ?_⟩) (by assumption) ?_
      rotate_left
      · intro w hSw; (try dsimp only at hSw); go_simp; (try (with_reducible rfl))
      try simp only [Act.put, List.setIfInBounds_toArray, List.set_cons_zero, List.set_cons_succ]
      refine wpAnyH_take (i := 6) (oi := ⟨_, _, _, _, _, _⟩) (v := ?_) rfl (by kernel_rfl) (by kernel_rfl) (by kernel_rfl) (fun _ _ _ h => h) (Or.inl ⟨by rfl, ?_⟩) (by assumption) ?_
      rotate_left
      · intro w hSw; (try dsimp only at hSw); go_simp; (try (with_reducible rfl))
      try simp only [Act.put, List.setIfInBounds_toArray, List.set_cons_zero, List.set_cons_succ]
      refine wpAnyH_ready (rs := [4]) (by kernel_rfl) (by simp) ?_
      refine AllReadyH.cons (o := ⟨_, _, _, _, _, _⟩) rfl (fun K hK => ?_) AllReadyH.nil
      go_simp
      refine (clone_any x _ (by omega)).mono ?_
      rintro e w1 ⟨rfl, hb1⟩
      have p1 := Blk.below (w := wa.drew) k hb1
      have q1 := Blk.below (w := wa.drew) hblk2 hb1
      have b1 := hb2.drew.trans (hb1.mono hb2.drew.size)
      have d1 := p1.cell 0
      have d2 := p1.cell 1
      simp only [List.getElem?_cons_zero, List.getElem?_cons_succ] at d1 d2
      refine hK.out _ _ ⟨d1, d2⟩ (fun hHeld => ?_)
      clear hK K
      try simp only [Act.put, List.setIfInBounds_toArray, List.set_cons_zero, List.set_cons_succ]
      refine wpAnyH_ready (rs := [7]) (by kernel_rfl) (by simp) ?_
      refine AllReadyH.cons (o := ⟨_, _, _, _, _, _⟩) rfl (fun K hK => ?_) AllReadyH.nil
      go_simp
      refine (clone_any d _ (by omega)).mono ?_
      rintro e w2 ⟨rfl, hb2'⟩
      have p2 := p1.below hb2'
      have q2 := q1.below hb2'
      have b2 := b1.trans (hb2'.mono b1.size)
      have d3 := p2.cell 0
      have d4 := p2.cell 1
      simp only [List.getElem?_cons_zero, List.getElem?_cons_succ] at d3 d4
      refine hK.out _ _ ⟨d3, d4⟩ (fun hHeld => ?_)
      clear hK K
      try simp only [Act.put, List.setIfInBounds_toArray, List.set_cons_zero, List.set_cons_succ]
      refine wpAnyH_take (i := 8) (oi := ⟨_, _, _, _, _, _⟩) (v := ?_) rfl (by kernel_rfl) (by kernel_rfl) (by kernel_rfl) (fun _ _ _ h => h) (Or.inl ⟨by rfl, ?_⟩) (by assumption) ?_
      rotate_left
      · intro w hSw; (try dsimp only at hSw); go_simp; (try (with_reducible rfl))
      try simp only [Act.put, List.setIfInBounds_toArray, List.set_cons_zero, List.set_cons_succ]
      refine wpAnyH_take (i := 9) (oi := ⟨_, _, _, _, _, _⟩) (v := ?_) rfl (by kernel_rfl) (by kernel_rfl) (by kernel_rfl) (fun _ _ _ h => h) (Or.inl ⟨by rfl, ?_⟩) (by assumption) ?_
      rotate_left
      · intro w hSw; (try dsimp only at hSw); go_simp; (try (with_reducible rfl))
      try simp only [Act.put, List.setIfInBounds_toArray, List.set_cons_zero, List.set_cons_succ]
      have c0 := q2.cell (j * 2)
      have c1 := q2.cell (j * 2 + 1)
      have f0 := q2.frozen (j * 2)
      have f1 := q2.frozen (j * 2 + 1)
      have hblk4 := (q2.set_ (j * 2) (.string x)).set_ (j * 2 + 1) (.string d)
      rw [fill_set _ _ _ _ HX0.out, fill_set _ _ _ _ HX1.out] at hblk4
      rw [fill_at _ _ _ (by omega)] at c0
      rw [fill, List.getElem?_append_right (by rw [List.length_take]; omega), List.length_take, List.getElem?_replicate, if_pos (by omega)] at c1
      have hb4 := (b2.setCell (p := ⟨w.heap.size, j * 2, none⟩) (Nat.le_refl _) (.string x)).setCell (p := ⟨w.heap.size, j * 2 + 1, none⟩) (Nat.le_refl _) (.string d)
      have P3 := (p2.other hne (j * 2) (.string x)).other hne (j * 2 + 1) (.string d)
      have e1 := P3.cell 0
      have e2 := P3.cell 1
      simp only [List.getElem?_cons_zero, List.getElem?_cons_succ] at e1 e2
      refine wpAnyH_ready (rs := [10]) (by kernel_rfl) (by simp) ?_
      refine AllReadyH.cons (o := ⟨_, _, _, _, _, _⟩) rfl (fun K hK => ?_) AllReadyH.nil
      go_simp
      generalize (w2.setCell ⟨w.heap.size, j * 2, none⟩ (.string x)).setCell ⟨w.heap.size, j * 2 + 1, none⟩ (.string d) = w3 at *
      refine hK.out _ _ ⟨e1, e2⟩ (fun hHeld => ?_)
      clear hK K
      try simp only [Act.put, List.setIfInBounds_toArray, List.set_cons_zero, List.set_cons_succ]
      refine wpAnyH_done (by kernel_rfl) ?_ _
      clear hHeld hblk2 hb1 hb2 k k1 k2 p1 q1 b1 d1 d2 p2 q2 b2 d3 d4 c0 c1 f0 f1 P3 e1 e2
      go_wp2
      go_roundw
      case rel => exact ⟨j + 1, by omega, by go_num, by rw [show (j + 1) * 2 = j * 2 + 1 + 1 by omega]; exact hblk4, hb4⟩
      case measure => simp [intOf]; omega
    · have HE := hid (show j = n by omega)
      have hnlt : ¬ (j : Int) < n := by omega
      go_wp2
      go_ret
      refine ⟨rfl, ?_, hb⟩
      have := fill_all (filV fs) zS
      rw [filV_length, HL.out] at this
      rw [HE.out, this] at hblk
      exact hblk

/-! ### One action -/
theorem sput_any {w : World} {A : Option Addr} {n c : Nat} {fs : List Fil} (h : Ft w A n c fs) (p d : ByteArray) (q : Bool) (hp : p.size < 4294967281) (hd : d.size ≤ 140737488355328) :
    Calls Tryz.prog 46 #[.agg #[.string p, .bool q, .string d], .slice A n c] w (OutF w (putT fs p d) (putE fs p d)) := by
  have cc := put_any (h.below ((Below.refl _ _).alloc (Nat.le_refl _) (.cells #[.string p, .bool q, .string d] 73))) p d hp hd
  have hw := w.size_alloc (.cells #[.string p, .bool q, .string d] 73)
  clear h
  go_enter Tryz.func46, Tryz.ntmps46
  go_wp2_with fail
  refine cc.mono ?_
  rintro e w1 ⟨A1, n1, c1, rfl, o1, b1⟩
  clear cc
  have o2 := o1.mono (base' := w.heap.size) (by omega)
  have b2 := below_al _ b1
  clear o1 b1
  generalize putE fs p d = z at *
  go_wp2
  go_ret2
  exact ⟨A1, n1, c1, rfl, o2, b2⟩
theorem sdrop_any {w : World} {A : Option Addr} {n c : Nat} {fs : List Fil} (h : Ft w A n c fs) (p d : ByteArray) (q : Bool) :
    Calls Tryz.prog 47 #[.agg #[.string p, .bool q, .string d], .slice A n c] w (OutF w (dropT fs p.data.toList) (dropE fs p.data.toList)) := by
  have cc := drop_any (h.below ((Below.refl _ _).alloc (Nat.le_refl _) (.cells #[.string p, .bool q, .string d] 73))) p
  have hw := w.size_alloc (.cells #[.string p, .bool q, .string d] 73)
  clear h
  go_enter Tryz.func47, Tryz.ntmps47
  go_wp2_with fail
  refine cc.mono ?_
  rintro e w1 ⟨A1, n1, c1, rfl, o1, b1⟩
  clear cc
  have o2 := o1.mono (base' := w.heap.size) (by omega)
  have b2 := below_al _ b1
  clear o1 b1
  generalize dropE fs p.data.toList = z at *
  go_wp2
  go_ret2
  exact ⟨A1, n1, c1, rfl, o2, b2⟩
theorem doing_put (p d : ByteArray) (w : World) :
    Calls Tryz.prog 25 #[.agg #[.string p, .bool true, .string d]] w fun e w' => e = .returned (.func (.func 46) #[.agg #[.string p, .bool true, .string d]] #[]) ∧ Below w.heap.size w w' := by
  have hmf : ∀ (fn : Fn) (first cap : Array Value) (w : World), (Instr.makeFunc fn first cap).run Tryz.prog w = .ok (.func fn first cap) w := fun _ _ _ _ => rfl
  go_enter Tryz.func25, Tryz.ntmps25
  go_wp2
  go_ret
  exact ⟨rfl, by go_grown⟩
theorem doing_drop (p d : ByteArray) (w : World) :
    Calls Tryz.prog 25 #[.agg #[.string p, .bool false, .string d]] w fun e w' => e = .returned (.func (.func 47) #[.agg #[.string p, .bool false, .string d]] #[]) ∧ Below w.heap.size w w' := by
  have hmf : ∀ (fn : Fn) (first cap : Array Value) (w : World), (Instr.makeFunc fn first cap).run Tryz.prog w = .ok (.func fn first cap) w := fun _ _ _ _ => rfl
  go_enter Tryz.func25, Tryz.ntmps25
  go_wp2
  go_ret
  exact ⟨rfl, by go_grown⟩
end Go.Proofs.YtaidggjnpnfdhaaGreatDoor
namespace Go.Proofs.YtaidggjnpnfdhaaGreatDoor
open Go.RowKit

set_option maxHeartbeats 4000000 in
theorem do_any {w : World} {A B : Option Addr} {n c m d : Nat} {t : List Fil} {l : List Ac} (h : Ft w A n c t) (k : At w B m d l) (room : Int) :
    Calls Tryz.prog 8 #[.slice A n c, .slice B m d, .int .i64 room] w (OutF w (doT t l room) (doN t l room)) := by
  have ep := enters_of Tryz.func46 (by kernel_rfl) rfl
  have ed := enters_of Tryz.func47 (by kernel_rfl) rfl
  have hal : ∀ (W : World) (o : Obj), Below W.heap.size W (W.alloc o) := fun W o => (Below.refl _ _).alloc (Nat.le_refl _) o
  go_enter Tryz.func8, Tryz.ntmps8
  go_wp2_with fail
  refine (tree_any h).mono ?_
  rintro e w1 ⟨rfl, b1⟩
  have h1 := h.below b1
  have k1 := k.below b1
  clear h k
  cases hR : treeR t with
  | false =>
    have HN : Hid (doN t l room = 1) := by show _ = _; unfold doN; rw [hR]; rfl
    clear hR
    go_wp2
    go_ret2
    exact out_err HN.out (doT_not (by rw [HN.out]; decide)) b1
  | true =>
    have hT := (treeR_iff t).1 hR
    have HTR := hid hT
    have hfew := hT.few
    have HSZ : Hid (∀ j, ∀ f ∈ doL t (l.take j), f.1.size < 4294967281 ∧ f.2.size ≤ 140737488355328) := fun j => do_P (P := fun f => f.1.size < 4294967281 ∧ f.2.size ≤ 140737488355328) h1.sz fun a ha => k1.sz a (List.mem_of_mem_take ha)
    have HR := hid hR
    have hl1 := h1.len
    clear hR hT
    go_wp2_with fail
    refine (acopied_any h1 (by omega)).mono ?_
    rintro e w2 ⟨rfl, B2, hb2⟩
    have b2 := below2 b1 hb2
    have k2 := k1.below hb2
    have hw1 := b1.size
    have O2 : OwnF w.heap.size w2 (some ⟨w1.heap.size, 0, none⟩) n n t := ⟨hl1, Nat.le_refl _, by omega, .inr ⟨w1.heap.size, [], rfl, hw1, by rw [List.append_nil]; exact B2⟩⟩
    have HL := hid k2.len
    have HKS := hid k2.sz
    have hm := k2.big
    clear B2 hb2 b1 h1 k1
    go_wp2_with fail
    go_loopw [8, 19] (fun v i wr => ∃ (j : Nat) (A' : Option Addr) (n' c' : Nat), j ≤ m ∧ i = .int .i64 j ∧ v = .slice A' n' c' ∧ Hid (doE t (l.take j) = 0) ∧ OwnF w.heap.size wr A' n' c' (doL t (l.take j)) ∧ Below w.heap.size w wr ∧ Below w2.heap.size w2 wr) (fun _ i _ => m - (intOf i).toNat)
    case atStart => exact ⟨0, _, _, _, by omega, rfl, rfl, rfl, O2, b2, Below.refl _ _⟩
    case round =>
      clear O2 b2
      obtain ⟨j, A', n', c', hj, rfl, rfl, HE0, o, b, bk⟩ := hrel
      have hRj : RightT (doL t (l.take j)) := do_right HTR.out HE0.out
      have hlen := o.1
      have hn16 := hRj.few
      by_cases hjm : j < m
      · have hjl : j < l.length := by rw [HL.out]; exact hjm
        have hz : (0 : Int) ≤ j := by omega
        have hlt : (j : Int) < m := by omega
        obtain ⟨g, og, rfl, x0, x1, x2, -⟩ := (k2.rd.below bk).act hjl
        obtain ⟨HM1, HM2⟩ := do_more t l j hjl
        have hs := HKS.out _ (List.getElem_mem hjl)
        have HSJ := hid (HSZ.out j)
        rw [HE0.out, if_pos rfl] at HM1
        have HST := hid (@do_stop t l (j + 1))
        have HM1 := hid HM1
        have HM2 := hid HM2
        generalize doL t (l.take j) = u at *
        generalize l[j] = a at *
        obtain ⟨p, q, dd⟩ := a
        dsimp only at x0 x1 x2 hs
        have hal2 := hal wr (.cells #[.string p, .bool q, .string dd] 47)
        have o2 := o.below hal2
        have bb2 := b.trans (hal2.mono b.size)
        have bk2 := bk.trans (hal2.mono bk.size)
        clear o b bk hal2
        cases q with
        | true =>
          have E1 : Hid (actE u (p, true, dd) = putE u p dd) := rfl
          have E2 : Hid (actT u (p, true, dd) = putL u p dd) := rfl
          go_wp2_with fail
          refine (doing_put p dd _).mono ?_
          rintro e w4 ⟨rfl, hb4⟩
          have o4 := o2.below hb4
          have b4 := bb2.trans (hb4.mono bb2.size)
          have bk4 := bk2.trans (hb4.mono bk2.size)
          clear o2 bb2 bk2 hb4
          have cc := sput_any (o4.ft (by omega) HSJ.out) p dd true hs.1 hs.2
          go_wp2_with fail
          refine cc.mono ?_
          rintro e w5 ⟨A5, n5, c5, rfl, o5, hb5⟩
          have o6 := o5.mono b4.size
          have b6 := b4.trans (hb5.mono b4.size)
          have bk6 := bk4.trans (hb5.mono bk4.size)
          clear cc o4 b4 bk4 o5 hb5
          by_cases he : putE u p dd = 0
          · have HO : Hid (putT u p dd = doL t (l.take (j + 1))) := by show _ = _; rw [putT_ok he, HM2.out, E2.out]
            have HE1 : Hid (doE t (l.take (j + 1)) = 0) := by show _ = _; rw [HM1.out, E1.out, he]
            rw [he]
            rw [HO.out] at o6
            clear he E1 E2 HM1 HM2 HO
            go_wp2
            go_roundw
            case rel => exact ⟨j + 1, A5, n5, c5, by omega, by go_num, rfl, HE1, o6, b6, bk6⟩
            case measure => simp [intOf]; omega
          · have HE1 : Hid (doE t l = putE u p dd) := by show _ = _; rw [HST.out (by rw [HM1.out, E1.out]; exact he), HM1.out, E1.out]
            have HN : Hid (doN t l room = putE u p dd) := by show _ = _; unfold doN; rw [HR.out, if_pos rfl, HE1.out, if_neg he]
            have hT0 := doT_not (t := t) (l := l) (r := room) (by rw [HN.out]; exact he)
            have hne : ¬ ((putE u p dd : Nat) : Int) = 0 := by omega
            clear E1 E2 HM1 HM2 HE1 HST o6 he
            generalize putE u p dd = z at *
            go_wp2
            go_ret2
            exact out_err HN.out hT0 b6
        | false =>
          have E1 : Hid (actE u (p, false, dd) = dropE u p.data.toList) := rfl
          have E2 : Hid (actT u (p, false, dd) = dropL u p.data.toList) := rfl
          go_wp2_with fail
          refine (doing_drop p dd _).mono ?_
          rintro e w4 ⟨rfl, hb4⟩
          have o4 := o2.below hb4
          have b4 := bb2.trans (hb4.mono bb2.size)
          have bk4 := bk2.trans (hb4.mono bk2.size)
          clear o2 bb2 bk2 hb4
          have cc := sdrop_any (o4.ft (by omega) HSJ.out) p dd false
          go_wp2_with fail
          refine cc.mono ?_
          rintro e w5 ⟨A5, n5, c5, rfl, o5, hb5⟩
          have o6 := o5.mono b4.size
          have b6 := b4.trans (hb5.mono b4.size)
          have bk6 := bk4.trans (hb5.mono bk4.size)
          clear cc o4 b4 bk4 o5 hb5
          by_cases he : dropE u p.data.toList = 0
          · have HO : Hid (dropT u p.data.toList = doL t (l.take (j + 1))) := by show _ = _; rw [dropT_ok he, HM2.out, E2.out]
            have HE1 : Hid (doE t (l.take (j + 1)) = 0) := by show _ = _; rw [HM1.out, E1.out, he]
            rw [he]
            rw [HO.out] at o6
            clear he E1 E2 HM1 HM2 HO
            go_wp2
            go_roundw
            case rel => exact ⟨j + 1, A5, n5, c5, by omega, by go_num, rfl, HE1, o6, b6, bk6⟩
            case measure => simp [intOf]; omega
          · have HE1 : Hid (doE t l = dropE u p.data.toList) := by show _ = _; rw [HST.out (by rw [HM1.out, E1.out]; exact he), HM1.out, E1.out]
            have HN : Hid (doN t l room = dropE u p.data.toList) := by show _ = _; unfold doN; rw [HR.out, if_pos rfl, HE1.out, if_neg he]
            have hT0 := doT_not (t := t) (l := l) (r := room) (by rw [HN.out]; exact he)
            have hne : ¬ ((dropE u p.data.toList : Nat) : Int) = 0 := by omega
            clear E1 E2 HM1 HM2 HE1 HST o6 he
            generalize dropE u p.data.toList = z at *
            go_wp2
            go_ret2
            exact out_err HN.out hT0 b6
      · have HJ := hid (show j = m by omega)
        have hnlt : ¬ (j : Int) < m := by omega
        rw [HJ.out, ← HL.out, List.take_length] at HE0 o hRj hlen hn16
        have hsz := size_le hRj
        have HSJ : Hid (∀ f ∈ doL t l, f.1.size < 4294967281 ∧ f.2.size ≤ 140737488355328) := by
          have := HSZ.out l.length
          rw [List.take_length] at this
          exact this
        have cs := size_any (o.ft (by omega) HSJ.out) (by omega)
        have HDN : Hid (doN t l room = if room < ((sizeT (doL t l) : Nat) : Int) then 2 else 0) := by show _ = _; unfold doN; rw [HR.out, if_pos rfl, HE0.out, if_pos rfl]
        generalize hu : doL t l = u at *
        have HU := hid hu
        clear hu
        go_wp2_with fail
        refine cs.mono ?_
        rintro e w6 ⟨rfl, hb6⟩
        have o6 := o.below hb6
        have b6 := b.trans (hb6.mono b.size)
        clear cs o b hb6
        by_cases hr : room < ((sizeT u : Nat) : Int)
        · have HN : Hid (doN t l room = 2) := by show _ = _; rw [HDN.out, if_pos hr]
          have hT0 := doT_not (t := t) (l := l) (r := room) (by rw [HN.out]; decide)
          clear HDN
          go_wp2
          go_ret2
          exact out_err HN.out hT0 b6
        · have HN : Hid (doN t l room = 0) := by show _ = _; rw [HDN.out, if_neg hr]
          have HT0 : Hid (doT t l room = u) := (doT_zero HN.out).trans HU.out
          clear HDN
          go_wp2
          go_ret2
          exact ⟨A', n', c', by rw [HN.out]; rfl, by rw [HT0.out]; exact o6, b6⟩
end Go.Proofs.YtaidggjnpnfdhaaGreatDoor
namespace Go.Proofs.YtaidggjnpnfdhaaGreatDoor
open Go.RowKit Go.Maps

theorem key_lit (l : List UInt8) : WideAt.IsKeyLit (.string l) := trivial
theorem str_ne {s t : ByteArray} (h : t ≠ s) : Lit.string t.data.toList ≠ .string s.data.toList := by
  intro e
  injection e with e
  exact h (data_inj e)
theorem Tryz.zeroI (w : World) : (zeroValue 3).run Tryz.prog w = .ok (.int .i64 0) w := by kernel_rfl
theorem Tryz.keyS : Keyed Tryz.prog 9 := string_keyed Tryz.underlying9
/-- The map tells, of each path, the place of its last action. -/
def Lasts (D : DataW Unit) (l : List Ac) : Prop := ∀ s : ByteArray, s.size ≤ maxLen → (∃ a ∈ l, a.1 = s) → ∃ i, ∃ hi : i < l.length, lastA l s = l[i] ∧ D.atKey (.string s.data.toList) (.lit (.int .i64 0)) = .lit (.int .i64 (i : Int))
theorem lasts_nil (D : DataW Unit) : Lasts D [] := fun s _ ⟨a, ha, _⟩ => by cases ha
theorem lasts_put {D : DataW Unit} {l : List Ac} {j : Nat} (h : Lasts D (l.take j)) (hm : Maps.IsMap D) (hj : j < l.length) : Lasts (D.put (.string l[j].1.data.toList) (.lit (.int .i64 (j : Int)))) (l.take (j + 1)) := by
  intro s hs hx
  rw [last_more l s j hj]
  by_cases e : l[j].1 = s
  · rw [if_pos e]
    refine ⟨j, by rw [List.length_take]; omega, by rw [List.getElem_take], ?_⟩
    subst e
    rw [Maps.atKey_put_same hm (key_lit _)]
  · rw [if_neg e]
    obtain ⟨a, ha, rfl⟩ := hx
    have ha2 : a ∈ l.take j := by
      rw [List.take_add_one, List.getElem?_eq_getElem hj, List.mem_append] at ha
      rcases ha with ha | ha
      · exact ha
      · have : a = l[j] := by simpa using ha
        exact absurd (by rw [this]) e
    obtain ⟨i, hi, h1, h2⟩ := h a.1 hs ⟨a, ha2, rfl⟩
    refine ⟨i, by rw [List.length_take] at *; omega, by rw [h1, List.getElem_take, List.getElem_take], ?_⟩
    rw [Maps.atKey_put_other (str_ne fun k => e k.symm)]
    exact h2
theorem last_look {w : World} {bm n : Nat} {D : DataW Unit} {l : List Ac} (hm : w.ownsMap Tryz.prog 9 (plainElem (H := Unit) Tryz.prog 3) bm n D) (hk : Lasts D l) {s : ByteArray} (hs : s.size ≤ maxLen) (hx : ∃ a ∈ l, a.1 = s) :
    ∃ i, ∃ hi : i < l.length, lastA l s = l[i] ∧ (Instr.lookup 58 (.map (some bm)) (.string s) false).run Tryz.prog w = .ok (.int .i64 (i : Int)) w := by
  obtain ⟨c, hrun, hat, -⟩ := hm.lookup_int Tryz.keyS Tryz.underlying58 Tryz.underlying3 (Tryz.zeroI _) (WideMaps.keyOf_string_mk Tryz.underlying9 hs)
  obtain ⟨i, hi, h1, h2⟩ := hk s hs hx
  rw [h2] at hat
  injection hat with hat
  injection hat with _ hat
  subst hat
  exact ⟨i, hi, h1, hrun⟩

/-! ### A net, path by path -/
def dropsA (l : List Ac) (j : Nat) : List Ac := ((pickA l).take j).filter fun a => !a.2.1
def putsA (l : List Ac) (j : Nat) : List Ac := ((pickA l).take j).filter fun a => a.2.1
theorem pick_len (l : List Ac) : (pickA l).length = (pathsA l).length := by unfold pickA; rw [List.length_map]
theorem net_end (l : List Ac) : netL l = dropsA l (pathsA l).length ++ putsA l (pathsA l).length := by
  unfold netL dropsA putsA
  rw [← pick_len, List.take_length]
theorem net_more {l : List Ac} {j : Nat} (h : j < (pathsA l).length) : dropsA l (j + 1) = dropsA l j ++ (if (lastA l (pathsA l)[j]).2.1 then [] else [lastA l (pathsA l)[j]]) ∧ putsA l (j + 1) = putsA l j ++ (if (lastA l (pathsA l)[j]).2.1 then [lastA l (pathsA l)[j]] else []) := by
  have hl : j < (pickA l).length := by rw [pick_len]; exact h
  have e : (pickA l)[j] = lastA l (pathsA l)[j] := by simp [pickA]
  unfold dropsA putsA
  rw [List.take_add_one, List.getElem?_eq_getElem hl, List.filter_append, List.filter_append, e]
  generalize lastA l (pathsA l)[j] = a
  constructor <;> congr 1 <;> cases h : a.2.1 <;> simp [h]
theorem netA_len (l : List Ac) (j : Nat) : (dropsA l j).length ≤ l.length ∧ (putsA l j).length ≤ l.length := by
  have h1 := paths_len l
  have h2 := pick_len l
  have h3 : ((pickA l).take j).length ≤ (pickA l).length := by rw [List.length_take]; omega
  have h4 : (dropsA l j).length ≤ ((pickA l).take j).length := List.length_filter_le _ _
  have h5 : (putsA l j).length ≤ ((pickA l).take j).length := List.length_filter_le _ _
  omega
theorem path_last {l : List Ac} {j : Nat} (h : j < (pathsA l).length) : (∃ a ∈ l, a.1 = (pathsA l)[j]) ∧ (lastA l (pathsA l)[j]).1 = (pathsA l)[j] := by
  have hm := paths_mem.1 (List.getElem_mem h)
  exact ⟨hm, (last_in hm).2⟩
end Go.Proofs.YtaidggjnpnfdhaaGreatDoor
namespace Go.Proofs.YtaidggjnpnfdhaaGreatDoor
open Go.RowKit Go.Sort

abbrev zAc : Value := .agg #[zS, .bool false, zS]

set_option maxHeartbeats 1000000 in
set_option maxRecDepth 100000 in
theorem agrow_any (k : Nat) (hk : k ≤ 1000000) (w : World) :
    Calls Tryz.prog 53 #[.slice none 0 0, .int .i64 (k : Int)] w fun e w' => ∃ v, e = .returned v ∧ w'.ownsRow w.heap.size 47 3 v 0 [] ∧ Below w.heap.size w w' := by
  by_cases h0 : k = 0
  · subst h0
    go_enter Tryz.func53, Tryz.ntmps53
    go_wp2
    go_ret
    exact ⟨_, rfl, ⟨rfl, .inl ⟨rfl, rfl⟩⟩, Below.refl _ _⟩
  · obtain ⟨i, hi, hz0, hz1, hz2⟩ := info_parts Tryz.infoA
    have HRUN := hid (Lib.run_append_nil_zeros (P := Tryz.prog) w 23 3 23 47 i zAc .i64 .i64 Tryz.underlying23 Tryz.underlying3 hi hz0 k (by omega) (by rw [hz1]; decide) (by omega) (by rw [hz2]; omega))
    have hc1 := grownCap_ge w k 0 47
    have hc2 := grownCap_le_maxLen w k 0 47 (by unfold maxLen; omega)
    have HO := hid (World.ownsRow_made (base := w.heap.size) (e := 47) (size := 3) w.drew (Builtin.zeroCells zAc.cells k ++ Builtin.zeroCells zAc.cells (grownCap w k 0 47 - k)) (grownCap w k 0 47) (Nat.le_refl _) hc2 (by
      have h5 : zAc.cells.size = 3 := rfl
      simp only [Array.size_append, size_zeroCells, h5]
      omega))
    have hb : Below w.heap.size w (w.drew.alloc (.cells (Builtin.zeroCells zAc.cells k ++ Builtin.zeroCells zAc.cells (grownCap w k 0 47 - k)) 47)) := (Below.refl _ _).drew.alloc (Nat.le_refl _) _
    generalize w.drew.alloc (.cells (Builtin.zeroCells zAc.cells k ++ Builtin.zeroCells zAc.cells (grownCap w k 0 47 - k)) 47) = W at *
    generalize grownCap w k 0 47 = q at *
    have hkz : (0 : Int) < k := by omega
    have hkn : ¬ (k : Int) < 0 := by omega
    clear hi hz0 hz1 hz2 h0
    unfold maxLen at hc2
    go_enter Tryz.func53, Tryz.ntmps53
    go_wp2_with (at_builtin; refine Lib.wpList_append_run _ rfl _ _ _ _ rfl _ _ rfl rfl _ _ HRUN.out ?_)
    go_ret
    exact ⟨_, rfl, HO.out, hb⟩

/-- append of entries onto a row of the call's own. -/
theorem app_acs {W : World} {n₀ : Nat} {v : Value} {xs : List Ac} (hrow : W.ownsRow n₀ 47 3 v xs.length (actV xs)) (hn : n₀ ≤ W.heap.size) {B : Option Addr} {m d : Nat} {ys : List Ac} (hl : ys.length = m) (hr : Rd W B (actV ys)) (hk : xs.length + m ≤ 1000000) :
    ∃ v' w1, Hid ((Builtin.append_ #[23, 23] 23 #[v, .slice B m d]).run Tryz.prog W = .ok v' w1) ∧ w1.ownsRow n₀ 47 3 v' (xs ++ ys).length (actV (xs ++ ys)) ∧ Below n₀ W w1 := by
  obtain ⟨i, hi, hz0, hz1, hz2⟩ := info_parts Tryz.infoA
  have own : ∀ ad : Addr, (∀ j u, (actV ys)[j]? = some u → W.cell? (ad.add j) = some u) → ∃ v' w1, Hid ((Builtin.append_ #[23, 23] 23 #[v, .slice (some ad) m d]).run Tryz.prog W = .ok v' w1) ∧ w1.ownsRow n₀ 47 3 v' (xs ++ ys).length (actV (xs ++ ys)) ∧ Below n₀ W w1 := by
    intro ad hc
    obtain ⟨v', w', h2, h3, h4, -⟩ := run_append_own (P := Tryz.prog) W n₀ 23 23 47 i zAc 3 40 Tryz.underlying23 hi hz0 hz1 hz2 rfl (by decide) v xs.length (actV xs) hrow ad m d (actV ys) (by rw [actV_length, hl]) hc (actV_one _) (by unfold maxLen; omega) (by omega) hn
    refine ⟨v', w', h2, ?_, (Below.refl n₀ W).grown h4 hn fun j ej => (hrow.lt j ej).1⟩
    rw [actV_append, List.length_append, hl]
    exact h3
  rcases hr with hr | ⟨ad, rfl, hc⟩
  · have hy : ys = [] := by
      have := actV_length ys
      rw [hr] at this
      exact List.eq_nil_of_length_eq_zero (by simp at this; omega)
    subst hy
    subst hl
    cases B with
    | none =>
      refine ⟨v, W, ?_, by rw [List.append_nil]; exact hrow, Below.refl _ _⟩
      show _ = _
      rcases hrow.2 with ⟨e1, e0⟩ | ⟨g, cap, cur, e1, _, _, hnc, _⟩
      · rw [e1]
        simp [Builtin.append_, run_underlying Tryz.underlying23, sizeOf, typeInfo, hi, Builtin.lenOf, Builtin.firstCells]
      · rw [e1]
        simp [Builtin.append_, run_underlying Tryz.underlying23, sizeOf, typeInfo, hi, Builtin.lenOf, Builtin.firstCells, hnc, storeCells]
    | some ad => exact own ad (by simp [actV])
  · exact own ad hc

set_option maxHeartbeats 2000000 in
set_option maxRecDepth 100000 in
theorem aconcat_any {w : World} {A B : Option Addr} {n c m d g : Nat} {es fs : List Ac} (hr : Rd w A (actV es)) (hr2 : Rd w B (actV fs)) (hl : es.length = n) (hl2 : fs.length = m) (hn : n ≤ 100000) (hm : m ≤ 100000) (hg : Blk w g [.slice A n c, .slice B m d] 23) :
    Calls Tryz.prog 35 #[.slice (some ⟨g, 0, none⟩) 2 2] w fun e w' => ∃ v, e = .returned v ∧ w'.ownsRow w.heap.size 47 3 v (es ++ fs).length (actV (es ++ fs)) ∧ Below w.heap.size w w' := by
  have HL := hid hl
  have HL2 := hid hl2
  have g0 := hg.cell 0
  have g1 := hg.cell 1
  have lg := hg.lt
  simp only [List.getElem?_cons_zero, List.getElem?_cons_succ] at g0 g1
  clear hl hl2 hg
  go_enter Tryz.func35, Tryz.ntmps35
  go_wp2_with fail
  go_loop [3, 11] (fun s i => (i = .int .i64 0 ∧ s = .int .i64 0) ∨ (i = .int .i64 1 ∧ s = .int .i64 (n : Int)) ∨ (i = .int .i64 2 ∧ s = .int .i64 ((n + m : Nat) : Int))) (fun _ i => 2 - (intOf i).toNat)
  case atStart => exact .inl ⟨rfl, rfl⟩
  case round =>
    have hnz : ¬ (n : Int) < 0 := by omega
    have hnm : ¬ (n : Int) + m < 0 := by omega
    rcases hrel with ⟨rfl, rfl⟩ | ⟨rfl, rfl⟩ | ⟨rfl, rfl⟩
    · go_wp2
      go_round
      case rel => exact .inr (.inl ⟨rfl, rfl⟩)
      case measure => decide
    · go_wp2
      go_round
      case rel => exact .inr (.inr ⟨rfl, by simp⟩)
      case measure => decide
    · go_wp2_with fail
      refine (agrow_any (n + m) (by omega) w).mono ?_
      rintro e w1 ⟨v1, rfl, o1, b1⟩
      go_wp2_with fail
      go_loopw [6, 27] (fun v i wr => ∃ xs : List Ac, ((i = .int .i64 0 ∧ xs = []) ∨ (i = .int .i64 1 ∧ xs = es) ∨ (i = .int .i64 2 ∧ xs = es ++ fs)) ∧ wr.ownsRow w.heap.size 47 3 v xs.length (actV xs) ∧ Below w.heap.size w wr) (fun _ i _ => 2 - (intOf i).toNat)
      case atStart => exact ⟨[], .inl ⟨rfl, rfl⟩, o1, b1⟩
      case round =>
        obtain ⟨xs, hx, o, b⟩ := hrel
        have y0 := (b.cell (p := ⟨g, 0, none⟩) lg).trans g0
        have y1 := (b.cell (p := ⟨g, 1, none⟩) lg).trans g1
        rcases hx with ⟨rfl, rfl⟩ | ⟨rfl, rfl⟩ | ⟨rfl, rfl⟩
        · obtain ⟨v', w2, HRUN, o2, b2⟩ := app_acs (W := wr) o b.size (d := c) HL.out (hr.below b) (by simp; omega)
          have b3 := b.trans b2
          clear o b2
          go_wp2_with (at_builtin; refine Lib.wpList_append_run _ rfl _ _ _ _ rfl _ _ rfl rfl _ _ HRUN.out ?_)
          go_roundw
          case rel => exact ⟨es, .inr (.inl ⟨rfl, rfl⟩), o2, b3⟩
          case measure => decide
        · obtain ⟨v', w2, HRUN, o2, b2⟩ := app_acs (W := wr) o b.size (d := d) HL2.out (hr2.below b) (by have := HL.out; omega)
          have b3 := b.trans b2
          clear o b2
          go_wp2_with (at_builtin; refine Lib.wpList_append_run _ rfl _ _ _ _ rfl _ _ rfl rfl _ _ HRUN.out ?_)
          go_roundw
          case rel => exact ⟨_, .inr (.inr ⟨rfl, rfl⟩), o2, b3⟩
          case measure => decide
        · go_wp2
          go_ret
          exact ⟨_, rfl, o, b⟩
end Go.Proofs.YtaidggjnpnfdhaaGreatDoor
namespace Go.Proofs.YtaidggjnpnfdhaaGreatDoor
open Go.RowKit Go.Sort

theorem known_paths (l : List Ac) : (knownL (l.map fun a => a.1.data.toList)).map mkS = pathsA l := by
  refine srtB_one ?_ (paths_srt l) fun x => ?_
  · refine List.pairwise_map.2 ((known_rises _).imp fun h => ?_)
    simpa [mkS] using h
  · rw [paths_mem, List.mem_map]
    constructor
    · rintro ⟨y, hy, rfl⟩
      obtain ⟨a, ha, rfl⟩ := List.mem_map.1 (known_has.1 hy)
      exact ⟨a, ha, data_inj (by simp [mkS])⟩
    · rintro ⟨a, ha, rfl⟩
      exact ⟨a.1.data.toList, known_has.2 (List.mem_map.2 ⟨a, ha, rfl⟩), data_inj (by simp [mkS])⟩
/-- The paths were answered, in a row of the call's own. -/
def PathsA (w : World) (l : List Ac) (e : Ending) (w' : World) : Prop :=
  ∃ C q, e = .returned (.slice C (pathsA l).length q) ∧ w'.ownsRow w.heap.size 9 1 (.slice C (pathsA l).length q) (pathsA l).length (strV (pathsA l)) ∧ Below w.heap.size w w'

set_option maxHeartbeats 4000000 in
set_option maxRecDepth 100000 in
theorem paths_any {w : World} {A : Option Addr} {n c : Nat} {l : List Ac} (h : At w A n c l) : Calls Tryz.prog 17 #[.slice A n c] w (PathsA w l) := by
  have hn := h.big
  have hmk := make_strs n (by omega)
  have HL := hid h.len
  have HS := hid h.sz
  have hr := h.rd
  have hal : ∀ (W : World) (o : Obj), Below W.heap.size W (W.alloc o) := fun W o => (Below.refl _ _).alloc (Nat.le_refl _) o
  clear h
  go_enter Tryz.func17, Tryz.ntmps17
  go_wp2_with fail
  go_loopw [14] (fun i wr => ∃ j : Nat, j ≤ n ∧ i = .int .i64 j ∧ Blk wr w.heap.size (fill (strV (l.map (·.1))) zS j) 9 ∧ Below w.heap.size w wr) (fun i _ => n - (intOf i).toNat)
  case atStart =>
    refine ⟨0, by omega, rfl, ?_, (Below.refl _ _).alloc (Nat.le_refl _) _⟩
    have := Blk.new w (List.replicate n zS) 9
    rw [fill_zero, strV_length, List.length_map, HL.out]
    exact this
  case round =>
    obtain ⟨j, hj, rfl, hblk, hb⟩ := hrel
    by_cases hjn : j < n
    · have hjl : j < l.length := by rw [HL.out]; exact hjn
      obtain ⟨b, off, rfl, x0, x1, x2, -⟩ := (hr.below hb).act hjl
      have hz : (0 : Int) ≤ j := by omega
      have hlt : (j : Int) < n := by omega
      have HX := hid (show (strV (l.map (·.1)))[j]? = some (.string l[j].1) by rw [strV, List.map_map, List.getElem?_map, List.getElem?_eq_getElem hjl]; rfl)
      have HLL := hid (show (strV (l.map (·.1))).length = n by rw [strV_length, List.length_map, HL.out])
      generalize l[j] = a at *
      obtain ⟨p, q, d⟩ := a
      dsimp only at x0 x1 x2 HX
      have hgw := hblk.lt
      have hblk1 := hblk.below (hal wr (.cells #[.string p, .bool q, .string d] 47))
      have c0 := hblk1.cell j
      have f0 := hblk1.frozen j
      have hblk2 := hblk.set_ j (.string p)
      rw [fill_set _ _ _ _ HX.out] at hblk2
      rw [fill_at _ _ _ (by rw [HLL.out]; exact hjn)] at c0
      have hb2 := hb.setCell (p := ⟨w.heap.size, j, none⟩) (Nat.le_refl _) (.string p)
      have hblk3 := hblk2.below (hal (wr.setCell ⟨w.heap.size, j, none⟩ (.string p)) (.cells #[.string p, .bool q, .string d] 47))
      have hb3 := hb2.alloc hb2.size (.cells #[.string p, .bool q, .string d] 47)
      clear hblk1
      clear hblk hb hblk2 hb2
      go_wp2
      go_roundw
      case rel => exact ⟨j + 1, by omega, by go_num, hblk3, hb3⟩
      case measure => simp [intOf]; omega
    · have HE := hid (show j = n by omega)
      have hnlt : ¬ (j : Int) < n := by omega
      have HO : Hid (wr.ownsRow w.heap.size 9 1 (.slice (some ⟨w.heap.size, 0, none⟩) n n) n ((l.map fun a => a.1.data.toList).map encStr)) := by
        have e1 := fill_all (strV (l.map (·.1))) zS
        rw [strV_length, List.length_map, HL.out] at e1
        rw [HE.out, e1] at hblk
        have e2 : strV (l.map (·.1)) = (l.map fun a => a.1.data.toList).map encStr := by rw [strV, List.map_map, List.map_map]; exact List.map_congr_left fun a _ => by simp [encStr]
        rw [e2] at hblk
        refine ⟨by simp [HL.out], .inr ⟨w.heap.size, n, _, rfl, Nat.le_refl _, hblk, Nat.le_refl _, by unfold maxLen; omega, by simp [HL.out], ?_⟩⟩
        rw [List.toList_toArray, List.take_of_length_le (by simp [HL.out])]
      have HX := hid (show (l.map fun a => a.1.data.toList).length = n by rw [List.length_map, HL.out])
      have HKN := hid (known_paths l)
      obtain ⟨g, cap, hv, hbg, hgl, hncap, hcm, hlen, hH⟩ := Lib.holds_of_ownsRow HO.out (by simp)
      injection hv with hv1 hv2 hv3
      injection hv1 with hv1
      injection hv1 with hv1
      subst hv1 hv3
      have hsort := Tryz.slices_Sort_string w.heap.size 0 n (l.map fun a => a.1.data.toList) wr hH hgl (by omega)
      rw [hlen] at hsort
      have HHH := hid hH
      clear hv2 hlen hH hcm hncap hbg hr hblk
      have HNL : Hid ((knownL (l.map fun a => a.1.data.toList)).length = (pathsA l).length) := by show _ = _; rw [← HKN.out, List.length_map]
      have HPL := hid (paths_len l)
      have HPZ : Hid (∀ p ∈ pathsA l, p.size ≤ 281474976710656) := fun p hp => by
        obtain ⟨a, ha, rfl⟩ := paths_mem.1 hp
        have := (HS.out a ha).1
        omega
      generalize (l.map fun a => a.1.data.toList) = ss at *
      go_wp2_with fail
      refine hsort.mono ?_
      rintro e w2 ⟨rfl, nn, os, rfl⟩
      clear hsort
      have hl2 : (ss.mergeSort fun x y => decide (x ≤ y)).length = n := by rw [List.length_mergeSort]; exact HX.out
      have hH2 : Holds encStr (grow (putRow encStr (Sort.ahead wr nn) w.heap.size 0 (ss.mergeSort fun x y => decide (x ≤ y)).toArray) os) w.heap.size 0 (ss.mergeSort fun x y => decide (x ≤ y)).toArray :=
        holds_grow encStr _ os w.heap.size 0 _ (by simpa [putRow, mapBlock, Sort.ahead] using hgl) (holds_putRow encStr _ w.heap.size 0 _ _ (holds_ahead encStr wr nn w.heap.size 0 _ HHH.out) (by simp))
      have hcomp := Tryz.slices_Compact_string w.heap.size 0 n (ss.mergeSort fun x y => decide (x ≤ y)) _ hH2 (by omega) (by omega)
      rw [hl2] at hcomp
      have HF := hid (fun q => known_end (w := w) (nn := nn) (os := os) (q := q) HO.out hb (Nat.le_refl _) (Nat.le_refl _) HX.out)
      clear hH2 hl2
      go_wp2_with fail
      refine hcomp.mono ?_
      rintro e w3 ⟨rfl, q, hw3⟩
      clear hcomp
      have HW := HF.out q
      rw [show (ss.mergeSort fun x y => decide (x ≤ y)) = ss.mergeSort (fun x y => decide (x ≤ y)) from rfl] at HW
      have hw4 : w3 = putRow encStr (Sort.ahead (grow (putRow encStr (Sort.ahead wr nn) w.heap.size 0 (ss.mergeSort fun x y => decide (x ≤ y)).toArray) os) q) w.heap.size 0 (knownL ss ++ List.replicate (n - (knownL ss).length) []).toArray := hw3
      rw [← hw4] at HW
      clear hw4 hw3 HF
      obtain ⟨C, q3, he3, rd3, b3⟩ := HW
      have hkl : (Lib.compact (ss.mergeSort fun x y => decide (x ≤ y))).length = (pathsA l).length := HNL.out
      rw [HKN.out] at rd3
      injection he3 with he3
      injection he3 with he3 he4 he5
      subst he3
      have HCM := hkl
      rw [hkl]
      clear hkl he4 he5 HCM HKN HNL HO HHH HX hb hgl
      generalize hP : pathsA l = P at *
      have HP := hid hP
      clear hP
      have hPn : P.length ≤ 100000 := by have := HPL.out; have := HL.out; omega
      clear HL HS HPL
      go_wp2_with fail
      go_loopw [6, 30] (fun v i wr => ∃ j : Nat, j ≤ P.length ∧ i = .int .i64 j ∧ wr.ownsRow w3.heap.size 9 1 v j (strV (P.take j)) ∧ Below w3.heap.size w3 wr) (fun _ i _ => P.length - (intOf i).toNat)
      case atStart => exact ⟨0, by omega, rfl, ⟨rfl, .inl ⟨rfl, rfl⟩⟩, Below.refl _ _⟩
      case round =>
        obtain ⟨j, hj, rfl, o, b⟩ := hrel
        by_cases hjp : j < P.length
        · have hz : (0 : Int) ≤ j := by omega
          have hlt : (j : Int) < P.length := by omega
          obtain ⟨gs, os, he, y0, -⟩ := (rd3.below b).at_ (k := j) (by rw [strV_length]; exact hjp)
          injection he with he
          injection he with he1 he2
          subst he1 he2
          rw [show (strV P)[j]'(by rw [strV_length]; exact hjp) = .string P[j] by simp [strV], Nat.zero_add] at y0
          have hps := HPZ.out _ (List.getElem_mem hjp)
          have HT : Hid (strV (P.take (j + 1)) = strV (P.take j) ++ [.string P[j]]) := by
            show _ = _
            rw [List.take_add_one, List.getElem?_eq_getElem hjp, strV_append]
            rfl
          generalize P[j] = p at *
          go_wp2_with fail
          refine (clone_any p _ hps).mono ?_
          rintro e w5 ⟨rfl, hb5⟩
          have o5 := own_below o hb5
          have b5 := b.trans (hb5.mono b.size)
          obtain ⟨A2, c2, w6, HRUN, o6, -, b6'⟩ := app_own2 (n₀ := w3.heap.size) Tryz.underlying35 Tryz.infoS rfl (by decide) o5 b5.size (by omega) (by unfold maxLen; omega) [.string p] rfl (by simp [Value.oneCell'])
          rw [← HT.out] at o6
          have b6 := b5.trans b6'
          clear o o5 b b5 hb5 b6' y0
          go_wp2_with (at_builtin; refine Lib.wpList_append_run _ rfl _ _ _ _ rfl _ _ rfl rfl _ _ HRUN.out ?_)
          go_roundw
          case rel => exact ⟨j + 1, by omega, by go_num, o6, b6⟩
          case measure => simp [intOf]; omega
        · have HJ := hid (show j = P.length by omega)
          have hnlt2 : ¬ (j : Int) < P.length := by omega
          rw [HJ.out, List.take_length] at o
          obtain ⟨A5, c5, rfl⟩ := own_slice o
          have b5 := below2 b3 b
          have o5 := own_low o b3.size
          clear o b b3 rd3
          go_wp2
          go_ret
          unfold PathsA
          rw [HP.out]
          exact ⟨A5, c5, rfl, o5, b5⟩
end Go.Proofs.YtaidggjnpnfdhaaGreatDoor
namespace Go.Proofs.YtaidggjnpnfdhaaGreatDoor
open Go.RowKit Go.Maps

theorem make_map (n : Int) (w : World) : (Instr.makeMap 58 (some (.int .i64 n))).run Tryz.prog w = .ok (.map (some w.heap.size)) (w.alloc (.map #[] 0)) := by
  simp [Instr.makeMap, run_underlying Tryz.underlying58, asInt, asIntOf, Result.andThen]

/-- Two rows of actions, of the call's own, apart. -/
structure Two (base : Nat) (v u : Value) (ds ps : List Ac) (W : World) : Prop where
  d : W.ownsRow base 47 3 v ds.length (actV ds)
  p : W.ownsRow base 47 3 u ps.length (actV ps)
  ne : ∀ g, v.ownBlock = some g → u.ownBlock ≠ some g
theorem Two.below {base : Nat} {v u : Value} {ds ps : List Ac} {W W' : World} (h : Two base v u ds ps W) (hb : Below W.heap.size W W') : Two base v u ds ps W' := ⟨own_below h.d hb, own_below h.p hb, h.ne⟩
theorem Two.turn {base : Nat} {v u : Value} {ds ps : List Ac} {W : World} (h : Two base v u ds ps W) : Two base u v ps ds W := ⟨h.p, h.d, fun g e k => h.ne g k e⟩
theorem Two.app {base : Nat} {v u : Value} {ds ps : List Ac} {W : World} (h : Two base v u ds ps W) (hn : base ≤ W.heap.size) (hk : ds.length ≤ 1000000) (a : Ac) :
    ∃ A' c' w1, Hid ((Builtin.append_ #[23, 23] 23 #[v, .slice (some ⟨W.heap.size, 0, none⟩) 1 1]).run Tryz.prog (W.alloc (.cells #[.string a.1, .bool a.2.1, .string a.2.2] 47)) = .ok (.slice A' (ds ++ [a]).length c') w1) ∧ Two base (.slice A' (ds ++ [a]).length c') u (ds ++ [a]) ps w1 ∧ Below base W w1 := by
  obtain ⟨i, hi, hz0, hz1, hz2⟩ := info_parts Tryz.infoA
  have hal : Below W.heap.size W (W.alloc (.cells (aV a).toArray 47)) := (Below.refl _ _).alloc (Nat.le_refl _) _
  have h2 := h.below hal
  obtain ⟨v', w1, r1, r2, r3, -, r5⟩ := run_append_own_at (P := Tryz.prog) (w := W.alloc (.cells (aV a).toArray 47)) base 23 23 47 i zAc 3 40 Tryz.underlying23 hi hz0 hz1 hz2 rfl (by decide) v ds.length (actV ds) h2.d ⟨W.heap.size, 0, none⟩ 1 1 (aV a) rfl (new_cells W 47 (aV a)) (by intro x hx; exact actV_one [a] x (by simpa [actV] using hx)) (by unfold maxLen; omega) (by omega) (by simp; omega)
  have hlen : (ds ++ [a]).length = ds.length + 1 := by simp
  have r2' : w1.ownsRow base 47 3 v' (ds ++ [a]).length (actV (ds ++ [a])) := by rw [hlen, actV_append]; simpa [actV] using r2
  obtain ⟨A', c', rfl⟩ := own_slice r2'
  refine ⟨A', c', w1, r1, ⟨r2', h2.p.kept r3 ?_, fun g e k => ?_⟩, hal.mono hn |>.grown r3 (by simp; omega) fun j ej => (h2.d.lt j ej).1⟩
  · cases hv : v.ownBlock with
    | none =>
      cases hu : u.ownBlock with
      | none => exact .inl rfl
      | some g => exact .inr (by simp)
    | some g =>
      exact .inr fun e => h.ne g hv (by rw [e])
  · rcases r5 with r5 | r5
    · exact h.ne g (r5.symm.trans e) k
    · rw [e] at r5
      injection r5 with r5
      have h6 := (h.p.lt g k).2
      simp at r5
      omega

/-- The net was answered, in a row of the call's own. -/
def ActsA (w : World) (l : List Ac) (e : Ending) (w' : World) : Prop :=
  ∃ C q, e = .returned (.slice C l.length q) ∧ w'.ownsRow w.heap.size 47 3 (.slice C l.length q) l.length (actV l) ∧ Below w.heap.size w w'

set_option maxHeartbeats 4000000 in
set_option maxRecDepth 100000 in
theorem net_any {w : World} {A : Option Addr} {n c : Nat} {l : List Ac} (h : At w A n c l) : Calls Tryz.prog 14 #[.slice A n c] w (ActsA w (netL l)) := by
  have hn := h.big
  have hmk := make_map (n : Int)
  have HL := hid h.len
  have HS := hid h.sz
  have hr := h.rd
  have hal : ∀ (W : World) (o : Obj), Below W.heap.size W (W.alloc o) := fun W o => (Below.refl _ _).alloc (Nat.le_refl _) o
  go_enter Tryz.func14, Tryz.ntmps14
  go_wp2_with fail
  go_loopw [16] (fun i wr => ∃ (j : Nat) (D : DataW Unit), j ≤ n ∧ i = .int .i64 j ∧ wr.ownsMap Tryz.prog 9 (plainElem (H := Unit) Tryz.prog 3) w.heap.size j D ∧ Lasts D (l.take j) ∧ Below w.heap.size w wr) (fun i _ => n - (intOf i).toNat)
  case atStart => exact ⟨0, .map [], by omega, rfl, World.ownsMap_made w _ _ _, lasts_nil _, (Below.refl _ _).alloc (Nat.le_refl _) _⟩
  case round =>
    obtain ⟨j, D, hj, rfl, hm, hk, b⟩ := hrel
    by_cases hjn : j < n
    · have hjl : j < l.length := by rw [HL.out]; exact hjn
      obtain ⟨g, og, rfl, x0, x1, x2, -⟩ := (hr.below b).act hjl
      have hz : (0 : Int) ≤ j := by omega
      have hlt : (j : Int) < n := by omega
      have hps := (HS.out _ (List.getElem_mem hjl)).1
      have HK := hid (lasts_put hk hm.isMap hjl)
      clear hk h
      generalize l[j] = a at *
      obtain ⟨p, q, d⟩ := a
      dsimp only at x0 x1 x2 hps HK
      have hm2 := hm.alloc (.cells #[.string p, .bool q, .string d] 47)
      have b2 := b.alloc b.size (.cells #[.string p, .bool q, .string d] 47)
      obtain ⟨w4, hrun4, hm4, hg4⟩ := World.ownsMap.update hm2 Tryz.keyS Tryz.underlying58 (by unfold maxLen; omega) (WideMaps.keyOf_string_mk Tryz.underlying9 (s := p) (by unfold maxLen; omega)) (plainElem_int (q := .i64) Tryz.underlying3 (a := (j : Int)) (WalkArith.wf_i64 (by omega)))
      have b4 := b2.grown hg4 b2.size (fun k e => by cases e; exact Nat.le_refl _)
      clear hm hm2 b b2 hg4
      go_wp2
      go_roundw
      case rel => exact ⟨j + 1, _, by omega, by go_num, hm4, HK.out, b4⟩
      case measure => simp [intOf]; omega
    · have HE := hid (show j = n by omega)
      have hnlt : ¬ (j : Int) < n := by omega
      rw [HE.out, ← HL.out, List.take_length] at hk
      have cp := paths_any (h.below b)
      have HK := hid hk
      clear hk h
      have hw := b.size
      go_wp2_with fail
      refine cp.mono ?_
      rintro e w5 ⟨C, q5, rfl, o5, hb5⟩
      have m5 := hm.kept (grown_below (row := none) hb5) (by simp)
      have b5 := b.trans (hb5.mono b.size)
      have rd5 := Rd.of_own o5
      have HPN := hid (paths_len l)
      have hpn : (pathsA l).length ≤ 100000 := by have := HPN.out; have := HL.out; omega
      clear cp o5 hb5 hm b hj
      go_wp2_with fail
      go_loopw [6, 7, 29] (fun v u i wr => ∃ k : Nat, k ≤ (pathsA l).length ∧ i = .int .i64 k ∧ Two w5.heap.size v u (dropsA l k) (putsA l k) wr ∧ Below w5.heap.size w5 wr) (fun _ _ i _ => (pathsA l).length - (intOf i).toNat)
      case atStart => exact ⟨0, by omega, rfl, ⟨World.ownsRow_nil _ _ _ _, World.ownsRow_nil _ _ _ _, fun g e => by cases e⟩, Below.refl _ _⟩
      case round =>
        obtain ⟨k, hk, rfl, T, b⟩ := hrel
        have m := m5.kept (grown_below (row := none) b) (by simp)
        by_cases hkp : k < (pathsA l).length
        · have hz : (0 : Int) ≤ k := by omega
          have hlt : (k : Int) < (pathsA l).length := by omega
          obtain ⟨gs, os, rfl, y0, -⟩ := (rd5.below b).at_ (k := k) (by rw [strV_length]; exact hkp)
          rw [show (strV (pathsA l))[k]'(by rw [strV_length]; exact hkp) = .string (pathsA l)[k] by simp [strV]] at y0
          obtain ⟨hx, hlp⟩ := path_last hkp
          obtain ⟨hM1, hM2⟩ := net_more hkp
          obtain ⟨hL1, hL2⟩ := netA_len l k
          have HLL := HL.out
          have hps : (pathsA l)[k].size ≤ maxLen := by
            obtain ⟨a, ha, e⟩ := hx
            rw [← e]
            have := (HS.out a ha).1
            unfold maxLen; omega
          obtain ⟨i, hi, hla, hlook⟩ := last_look m HK.out hps hx
          rw [hla] at hM1 hM2 hlp
          have hs := HS.out _ (List.getElem_mem hi)
          obtain ⟨g, og, rfl, x0, x1, x2, -⟩ := ((hr.below b5).below b).act hi
          have hi0 : (0 : Int) ≤ i := by omega
          have hin : (i : Int) < n := by omega
          rw [← hlp] at y0 hlook
          have HM1 := hid hM1
          have HM2 := hid hM2
          clear hla hx hps hM1 hM2 hlp HLL
          generalize l[i] = a at *
          obtain ⟨p, q, d⟩ := a
          dsimp only at x0 x1 x2 hs y0 hlook
          have hds : (dropsA l k).length ≤ 1000000 := by have := HL.out; omega
          have hpu : (putsA l k).length ≤ 1000000 := by have := HL.out; omega
          have pk := Blk.new wr [.string p, .bool q, .string d] 47
          have bk := hal wr (.cells #[.string p, .bool q, .string d] 47)
          generalize dropsA l k = ds at *
          generalize putsA l k = ps at *
          generalize HW0 : wr.alloc (.cells #[.string p, .bool q, .string d] 47) = wa at pk bk
          go_upto_region 12 with (fail)
          clear HW0 x0 x1 x2 y0 hlook
          have a2 := pk.cell 2
          simp only [List.getElem?_cons_zero, List.getElem?_cons_succ] at a2
          go_wp2_with fail
          refine (clone_any d _ (by omega)).mono ?_
          rintro e w7 ⟨rfl, hb7⟩
          have pk7 := pk.below hb7
          have bk7 := below2 bk hb7
          have c0 := pk7.cell 0
          have c1 := pk7.cell 1
          have c2 := pk7.cell 2
          have f0 := pk7.frozen 0
          have f2 := pk7.frozen 2
          simp only [List.getElem?_cons_zero, List.getElem?_cons_succ] at c0 c1 c2
          have pk8 := (pk7.set_ 0 (.string p)).set_ 2 (.string d)
          simp only [List.set_cons_zero, List.set_cons_succ] at pk8
          have bk8 := (bk7.setCell (p := ⟨wr.heap.size, 0, none⟩) (Nat.le_refl _) (.string p)).setCell (p := ⟨wr.heap.size, 2, none⟩) (Nat.le_refl _) (.string d)
          go_upto_region 13 with (fail)
          clear c0 c1 c2 f0 f2 pk7 bk7 hb7 pk bk a2
          generalize (w7.setCell ⟨wr.heap.size, 0, none⟩ (.string p)).setCell ⟨wr.heap.size, 2, none⟩ (.string d) = w8 at *
          have c0 := pk8.cell 0
          have c1 := pk8.cell 1
          have c2 := pk8.cell 2
          simp only [List.getElem?_cons_zero, List.getElem?_cons_succ] at c0 c1 c2
          have T8 := T.below bk8
          have b8 := b.trans (bk8.mono b.size)
          clear T b m pk8 bk8
          generalize wr.heap.size = g8 at *
          cases q with
          | true =>
            rw [if_pos rfl] at HM1 HM2
            obtain ⟨A9, c9, w9, HRUN, T9, hb9⟩ := T8.turn.app b8.size hpu (p, true, d)
            have b9 := b8.trans hb9
            have T10 := T9.turn
            clear T8 T9 hb9 b8
            go_wp2_with (at_builtin; refine Lib.wpList_append_run _ rfl _ _ _ _ rfl _ _ rfl rfl _ _ HRUN.out ?_)
            go_roundw
            case rel => exact ⟨k + 1, by omega, by go_num, by rw [HM1.out, HM2.out, List.append_nil]; simpa using T10, b9⟩
            case measure => simp [intOf]; omega
          | false =>
            rw [if_neg (by simp)] at HM1 HM2
            obtain ⟨A9, c9, w9, HRUN, T9, hb9⟩ := T8.app b8.size hds (p, false, d)
            have b9 := b8.trans hb9
            clear T8 hb9 b8
            go_wp2_with (at_builtin; refine Lib.wpList_append_run _ rfl _ _ _ _ rfl _ _ rfl rfl _ _ HRUN.out ?_)
            go_roundw
            case rel => exact ⟨k + 1, by omega, by go_num, by rw [HM1.out, HM2.out, List.append_nil]; simpa using T9, b9⟩
            case measure => simp [intOf]; omega
        · have HJ := hid (show k = (pathsA l).length by omega)
          have hnlt2 : ¬ (k : Int) < (pathsA l).length := by omega
          obtain ⟨hL1, hL2⟩ := netA_len l k
          have HNE : Hid (netL l = dropsA l k ++ putsA l k) := by show _ = _; rw [HJ.out]; exact net_end l
          have hds : (dropsA l k).length ≤ 100000 := by have := HL.out; omega
          have hpu : (putsA l k).length ≤ 100000 := by have := HL.out; omega
          generalize dropsA l k = ds at *
          generalize putsA l k = ps at *
          obtain ⟨A6, c6, rfl⟩ := own_slice T.d
          obtain ⟨A7, c7, rfl⟩ := own_slice T.p
          have r6 := rd_own3 rfl T.d
          have r7 := rd_own3 rfl T.p
          have hal2 := hal wr (.cells #[.slice A6 ds.length c6, .slice A7 ps.length c7] 23)
          have cc := aconcat_any (c := c6) (d := c7) (r6.below hal2) (r7.below hal2) rfl rfl hds hpu (Blk.new wr [.slice A6 ds.length c6, .slice A7 ps.length c7] 23)
          have b9 := b5.trans ((b.mono b5.size).trans (hal2.mono (by have := b.size; have := b5.size; omega)))
          have hsz := wr.size_alloc (.cells #[.slice A6 ds.length c6, .slice A7 ps.length c7] 23)
          have hws : w.heap.size ≤ wr.heap.size := by have := b.size; have := b5.size; omega
          clear T r6 r7 hal2 m b m5 b5 hr rd5
          go_wp2_with fail
          refine cc.mono ?_
          rintro e w9 ⟨v9, rfl, o9, hb9⟩
          clear cc
          obtain ⟨A9, c9, rfl⟩ := own_slice o9
          have o10 := own_low (base' := w.heap.size) o9 (by omega)
          have b10 := b9.trans (hb9.mono b9.size)
          clear o9 hb9 b9
          rw [← HNE.out] at o10 ⊢
          go_wp2
          go_ret
          exact ⟨A9, c9, rfl, o10, b10⟩
end Go.Proofs.YtaidggjnpnfdhaaGreatDoor
namespace Go.Proofs.YtaidggjnpnfdhaaGreatDoor
open Go.RowKit

set_option maxHeartbeats 400000 in
theorem undo1_any (bx : Nat) (g : Fil) (p : ByteArray) (W : World) (hx : W.cell? ⟨bx, 0, none⟩ = some (.string p)) :
    Calls Tryz.prog 32 (#[.agg #[.string g.1, .string g.2]] ++ #[.pointer (some ⟨bx, 0, none⟩)]) W fun x w' => x = .returned (.bool (decide (g.1 = p))) ∧ Below W.heap.size W w' := by
  obtain ⟨x, d⟩ := g
  have hb := World.block_lt_of_cell? _ _ hx
  have HE := hid (str_eqb x p)
  go_enter Tryz.func32, Tryz.ntmps32
  go_wp2
  go_ret
  exact ⟨ret_bool HE.out, by go_grown⟩

/-- The first place of a path, or none. -/
def IdxAt (w : World) (fs : List Fil) (p : ByteArray) (e : Ending) (w' : World) : Prop :=
  ∃ k : Int, e = .returned (.int .i64 k) ∧ ((k = -1 ∧ ∀ f ∈ fs, f.1 ≠ p) ∨ ∃ i, ∃ hi : i < fs.length, k = (i : Int) ∧ fs[i].1 = p) ∧ Below w.heap.size w w'
set_option maxHeartbeats 1000000 in
theorem idxU_any (bx : Nat) (A : Option Addr) (n c : Nat) (fs : List Fil) (p : ByteArray) (w : World) (hl : fs.length = n) (hx : w.cell? ⟨bx, 0, none⟩ = some (.string p)) (hr : Rd w A (filV fs)) (hn : n ≤ 140737488355328) :
    Calls Tryz.prog 31 #[.slice A n c, .func (.func 32) #[] #[.pointer (some ⟨bx, 0, none⟩)]] w (IdxAt w fs p) := by
  have eg := enters_of Tryz.func32 (by kernel_rfl) rfl
  have hbx := World.block_lt_of_cell? _ _ hx
  have HL := hid hl
  clear hl
  go_enter Tryz.func31, Tryz.ntmps31
  go_wp2_with fail
  go_loopw [8] (fun i wr => ∃ j : Nat, j ≤ n ∧ i = .int .i64 j ∧ Hid (∀ i (hi : i < fs.length), i < j → fs[i].1 ≠ p) ∧ Below w.heap.size w wr) (fun i _ => n - (intOf i).toNat)
  case atStart => exact ⟨0, by omega, rfl, hid (fun i _ h => absurd h (by omega)), Below.refl _ _⟩
  case round =>
    obtain ⟨j, hj, rfl, HO, hb⟩ := hrel
    by_cases hjn : j < n
    · have hjl : j < fs.length := by rw [HL.out]; exact hjn
      obtain ⟨b, off, rfl, h1, h2, -⟩ := (hr.below hb).fil hjl
      have HG := hid (show ∃ g : Fil, fs[j] = g from ⟨_, rfl⟩)
      have hx1 := (hb.cell (p := ⟨bx, 0, none⟩) hbx).trans hx
      obtain ⟨g, hg⟩ := HG.out
      have HGG := hid hg
      rw [hg] at h1 h2
      clear HG hg
      have cc := undo1_any bx g p wr hx1
      have hz : (0 : Int) ≤ j := by omega
      have hlt : (j : Int) < n := by omega
      go_wp2_with fail
      refine cc.mono ?_
      rintro e w1 ⟨rfl, hb1'⟩
      have hb1 := below2 hb hb1'
      clear cc hb hb1' hx1
      cases hq : (decide (g.1 = p))
      · have HO2 : Hid (∀ i (hi : i < fs.length), i < j + 1 → fs[i].1 ≠ p) := fun i hi hij => by
          by_cases e : i = j
          · subst e; rw [HGG.out]; exact of_decide_eq_false hq
          · exact HO.out i hi (by omega)
        clear hq
        go_wp2
        go_roundw
        case rel => exact ⟨j + 1, by omega, by go_num, HO2, hb1⟩
        case measure => simp [intOf]; omega
      · have HQ := hid hq
        clear hq
        go_wp2
        go_ret
        exact ⟨j, rfl, .inr ⟨j, hjl, rfl, by rw [HGG.out]; exact of_decide_eq_true HQ.out⟩, hb1⟩
    · have HE := hid (show j = n by omega)
      have hnlt : ¬ (j : Int) < n := by omega
      go_wp2
      go_ret
      refine ⟨-1, rfl, .inl ⟨rfl, fun f hf => ?_⟩, hb⟩
      obtain ⟨i, hi, rfl⟩ := List.mem_iff_getElem.1 hf
      exact HO.out i hi (by rw [HE.out, ← HL.out]; exact hi)
theorem own_caps {w : World} {base : Nat} {e : TypeId} {sz n c : Nat} {A : Option Addr} {xs : List Value} (h : w.ownsRow base e sz (.slice A n c) n xs) : n ≤ c ∧ c ≤ maxLen := by
  rcases h.2 with ⟨h1, h2⟩ | ⟨g, cap, cur, h1, -, -, h3, h4, -⟩
  · injection h1 with _ _ h1
    subst h1 h2
    exact ⟨Nat.le_refl _, by unfold maxLen; omega⟩
  · injection h1 with _ _ h1
    subst h1
    exact ⟨h3, h4⟩
theorem cell_apart {W : World} {b o g i : Nat} {u v : Value} (h : W.cell? ⟨b, o, none⟩ = some u) (hne : ¬ b = g) : (W.setCell ⟨g, i, none⟩ v).cell? ⟨b, o, none⟩ = some u :=
  (World.cell?_of_block (Below.heap_setCell W ⟨g, i, none⟩ v b hne)).trans h
theorem was_no {t : List Fil} (h : RightT t) {p : ByteArray} (k : ∀ f ∈ t, f.1 ≠ p) : wasA t p = (p, false, noS) := by
  have h1 : inF t p = false := not_true fun e => by
    obtain ⟨f, hf, e⟩ := inF_iff.1 e
    exact k f hf e
  unfold wasA
  rw [getT_no h h1]; rfl
theorem was_yes {t : List Fil} (h : RightT t) {p d : ByteArray} (k : (p, d) ∈ t) : wasA t p = (p, true, d) := by
  unfold wasA
  rw [(getT_mem h).2 k]; rfl
theorem was_sz {t : List Fil} {p : ByteArray} (h : RightT t) : (wasA t p).1 = p ∧ (wasA t p).2.2.size ≤ 600 := by
  refine ⟨rfl, ?_⟩
  unfold wasA
  dsimp only
  cases hg : getT t p.data.toList with
  | none => show noS.size ≤ 600; decide
  | some d => exact h.datas _ ((getT_mem h).1 hg)

set_option maxHeartbeats 4000000 in
set_option maxRecDepth 100000 in
theorem undo_any {w : World} {A B : Option Addr} {n c m d : Nat} {t : List Fil} {l : List Ac} (h : Ft w A n c t) (k : At w B m d l) :
    Calls Tryz.prog 12 #[.slice A n c, .slice B m d] w (ActsA w (undoL t l)) := by
  have hmf : ∀ (fn : Fn) (first cap : Array Value) (w : World), (Instr.makeFunc fn first cap).run Tryz.prog w = .ok (.func fn first cap) w := fun _ _ _ _ => rfl
  have hal : ∀ (W : World) (o : Obj), Below W.heap.size W (W.alloc o) := fun W o => (Below.refl _ _).alloc (Nat.le_refl _) o
  go_enter Tryz.func12, Tryz.ntmps12
  go_wp2_with fail
  refine (tree_any h).mono ?_
  rintro e w1 ⟨rfl, b1⟩
  have h1 := h.below b1
  have k1 := k.below b1
  clear h k
  cases hR : treeR t with
  | false =>
    have HN : Hid (undoL t l = []) := by show _ = _; unfold undoL; rw [hR]; rfl
    clear hR
    go_wp2
    go_ret
    rw [HN.out]
    exact ⟨none, 0, rfl, World.ownsRow_nil _ _ _ _, b1⟩
  | true =>
    have HT := hid ((treeR_iff t).1 hR)
    have HN : Hid (undoL t l = netL ((pathsA l).map (wasA t))) := by show _ = _; unfold undoL; rw [hR]; rfl
    clear hR
    go_wp2_with fail
    refine (paths_any k1).mono ?_
    rintro e w5 ⟨C, q5, rfl, o5, hb5⟩
    have b5 := below2 b1 hb5
    have h5 := h1.below hb5
    have rd5 := Rd.of_own o5
    have HPN := hid (paths_len l)
    have HKL := hid k1.len
    have hkm := k1.big
    have hpn : (pathsA l).length ≤ 100000 := by have := HPN.out; have := HKL.out; omega
    have HPZ : Hid (∀ p ∈ pathsA l, p.size < 4294967281) := fun p hp => by
      obtain ⟨a, ha, rfl⟩ := paths_mem.1 hp
      exact (k1.sz a ha).1
    clear o5 hb5 b1 h1 k1
    generalize pathsA l = P at *
    go_wp2_with fail
    go_loopw [5, 16] (fun v i wr => ∃ (k : Nat) (xs : List Ac), k ≤ P.length ∧ i = .int .i64 k ∧ Hid (xs = (P.take k).map (wasA t)) ∧ wr.ownsRow w5.heap.size 47 3 v xs.length (actV xs) ∧ Below w5.heap.size w5 wr) (fun _ i _ => P.length - (intOf i).toNat)
    case atStart => exact ⟨0, [], by omega, rfl, rfl, World.ownsRow_nil _ _ _ _, Below.refl _ _⟩
    case round =>
      obtain ⟨k, xs, hk, rfl, HX, o, b⟩ := hrel
      have hxl : xs.length = k := by rw [HX.out, List.length_map, List.length_take]; omega
      by_cases hkp : k < P.length
      · have hz : (0 : Int) ≤ k := by omega
        have hlt : (k : Int) < P.length := by omega
        obtain ⟨gs, os, rfl, y0, -⟩ := (rd5.below b).at_ (k := k) (by rw [strV_length]; exact hkp)
        rw [show (strV P)[k]'(by rw [strV_length]; exact hkp) = .string P[k] by simp [strV]] at y0
        have HX2 : Hid (xs ++ [wasA t P[k]] = (P.take (k + 1)).map (wasA t)) := by show _ = _; rw [List.take_add_one, List.getElem?_eq_getElem hkp, List.map_append, ← HX.out]; rfl
        have hps := HPZ.out _ (List.getElem_mem hkp)
        have hxs : xs.length ≤ 1000000 := by omega
        clear hxl HX
        generalize P[k] = p at *
        have p0 := (Blk.new wr [.string p] 9).below (hal _ (.cells #[.string p, .bool false, zS] 47))
        have pk := Blk.new (wr.alloc (.cells #[.string p] 9)) [.string p, .bool false, zS] 47
        have bb := below2 (hal wr (.cells #[.string p] 9)) (hal _ (.cells #[.string p, .bool false, zS] 47))
        rw [World.size_alloc] at pk
        go_upto_region 8 with (fail)
        clear y0
        generalize (wr.alloc (.cells #[.string p] 9)).alloc (.cells #[.string p, .bool false, zS] 47) = wa at *
        have x0 := p0.cell 0
        simp only [List.getElem?_cons_zero] at x0
        have ha := h5.below (b.trans (bb.mono b.size))
        have cc := idxU_any wr.heap.size A n c t p wa ha.len x0 ha.rd ha.big
        clear p0
        go_wp2_with fail
        refine cc.mono ?_
        rintro e w6 ⟨z, rfl, hzz, hb6⟩
        clear cc x0
        have pk6 := pk.below hb6
        have bb6 := below2 bb hb6
        have h6 := ha.below hb6
        clear ha pk bb hb6
        rcases hzz with ⟨rfl, hno⟩ | ⟨i, hi, rfl, hie⟩
        · have HWA := hid (was_no HT.out hno)
          rw [HWA.out] at HX2
          have c0 := pk6.cell 0
          have c1 := pk6.cell 1
          have c2 := pk6.cell 2
          simp only [List.getElem?_cons_zero, List.getElem?_cons_succ] at c0 c1 c2
          have o6 := own_below o bb6
          have b6 := b.trans (bb6.mono b.size)
          clear o b pk6 bb6 hno HWA h6
          generalize wr.heap.size = g6 at *
          obtain ⟨A9, c9, w9, HRUN, o9, hb9⟩ := app_act o6 b6.size hxs (p, false, noS)
          have b9 := b6.trans hb9
          clear o6 b6 hb9
          go_wp2_with (at_builtin; refine Lib.wpList_append_run _ rfl _ _ _ _ rfl _ _ rfl rfl _ _ HRUN.out ?_)
          go_roundw
          case rel => exact ⟨k + 1, xs ++ [(p, false, noS)], by omega, by go_num, HX2, by simpa using o9, b9⟩
          case measure => simp [intOf]; omega
        · obtain ⟨b', off, rfl, h1, h2, hbl⟩ := h6.rd.fil hi
          have hmem := List.getElem_mem hi
          have hin : i < n := by rw [← h6.len]; exact hi
          generalize t[i] = f at *
          obtain ⟨f1, f2⟩ := f
          dsimp only at hie h1 h2
          subst hie
          have HWA := hid (was_yes HT.out hmem)
          rw [HWA.out] at HX2
          have hi0 : (0 : Int) ≤ i := by omega
          have hilt : (i : Int) < n := by omega
          have c1 := pk6.cell 1
          have c2 := pk6.cell 2
          have f1' := pk6.frozen 1
          have f2' := pk6.frozen 2
          simp only [List.getElem?_cons_zero, List.getElem?_cons_succ] at c1 c2
          have hne : ¬ b' = wr.heap.size + 1 := fun e => by
            subst e
            have h3 := Blk.cell pk6 (off + i * 2)
            rw [h1] at h3
            have h4 := Blk.cell pk6 (off + i * 2 + 1)
            rw [h2] at h4
            have hq : off + i * 2 = 0 ∨ off + i * 2 = 1 ∨ off + i * 2 = 2 ∨ 3 ≤ off + i * 2 := by omega
            rcases hq with e | e | e | e
            · rw [e] at h4; simp at h4
            · rw [e] at h3; simp at h3
            · rw [e] at h4; simp at h4
            · rw [List.getElem?_eq_none (by simpa using e)] at h3; cases h3
          have pk8 := ((pk6.set_ 1 (.bool true)).set_ 2 (.string f2)).drew
          simp only [List.set_cons_succ, List.set_cons_zero] at pk8
          have bb8 := ((bb6.setCell (p := ⟨wr.heap.size + 1, 1, none⟩) (by show wr.heap.size ≤ wr.heap.size + 1; omega) (.bool true)).setCell (p := ⟨wr.heap.size + 1, 2, none⟩) (by show wr.heap.size ≤ wr.heap.size + 1; omega) (.string f2)).drew
          have e1 := cell_apart (W := w6) (i := 1) (v := .bool true) h2 hne
          have e2 := cell_apart (i := 2) (v := .string f2) e1 hne
          clear h6 hmem HWA hbl h1 hne
          go_upto_region 10 with (fail)
          refine wp_region_held_drew (S := fun w' => w'.cell? ⟨b', off + i * 2 + 1, none⟩ = some (.string f2)) (by kernel_rfl) h2 (fun hHeld => ?_)
          refine wpAnyH_take (i := 0) (oi := ⟨_, _, _, _, _, _⟩) (v := ?_) rfl (by kernel_rfl) (by kernel_rfl) (by kernel_rfl) (fun _ _ _ h => h) (Or.inl ⟨by rfl, ?_⟩) (by assumption) ?_
          rotate_left
          · intro w hSw; (try dsimp only at hSw); go_simp; (try (with_reducible rfl))
          try simp only [Act.put, List.setIfInBounds_toArray, List.set_cons_zero, List.set_cons_succ]
          refine wpAnyH_take (i := 1) (oi := ⟨_, _, _, _, _, _⟩) (v := ?_) rfl (by kernel_rfl) (by kernel_rfl) (by kernel_rfl) (fun _ _ _ h => h) (Or.inl ⟨by rfl, ?_⟩) (by assumption) ?_
          rotate_left
          · intro w hSw; (try dsimp only at hSw); go_simp; (try (with_reducible rfl))
          try simp only [Act.put, List.setIfInBounds_toArray, List.set_cons_zero, List.set_cons_succ]
          refine wpAnyH_take (i := 2) (oi := ⟨_, _, _, _, _, _⟩) (v := ?_) rfl (by kernel_rfl) (by kernel_rfl) (by kernel_rfl) (fun _ _ _ h => h) (Or.inl ⟨by rfl, ?_⟩) (by assumption) ?_
          rotate_left
          · intro w hSw; (try dsimp only at hSw); go_simp; (try (with_reducible rfl))
          try simp only [Act.put, List.setIfInBounds_toArray, List.set_cons_zero, List.set_cons_succ]
          refine wpAnyH_take (i := 3) (oi := ⟨_, _, _, _, _, _⟩) (v := ?_) rfl (by kernel_rfl) (by kernel_rfl) (by kernel_rfl) (fun _ _ _ h => h) (Or.inl ⟨by rfl, ?_⟩) (by assumption) ?_
          rotate_left
          · intro w hSw; (try dsimp only at hSw); go_simp; (try (with_reducible rfl))
          try simp only [Act.put, List.setIfInBounds_toArray, List.set_cons_zero, List.set_cons_succ]
          refine wpAnyH_take (i := 4) (oi := ⟨_, _, _, _, _, _⟩) (v := ?_) rfl (by kernel_rfl) (by kernel_rfl) (by kernel_rfl) (fun _ _ _ h => h) (Or.inl ⟨by rfl, ?_⟩) (by assumption) ?_
          rotate_left
          · intro w hSw; (try dsimp only at hSw); go_simp; (try (with_reducible rfl))
          try simp only [Act.put, List.setIfInBounds_toArray, List.set_cons_zero, List.set_cons_succ]
          refine wpAnyH_take (i := 5) (oi := ⟨_, _, _, _, _, _⟩) (v := ?_) rfl (by kernel_rfl) (by kernel_rfl) (by kernel_rfl) (fun _ _ _ h => h) (Or.inl ⟨by rfl, ?_⟩) (by assumption) ?_
          rotate_left
          · intro w hSw; (try dsimp only at hSw); go_simp; (try (with_reducible rfl))
          try simp only [Act.put, List.setIfInBounds_toArray, List.set_cons_zero, List.set_cons_succ]
          refine wpAnyH_ready (rs := [6]) (by kernel_rfl) (by simp) ?_
          refine AllReadyH.cons (o := ⟨_, _, _, _, _, _⟩) rfl (fun K hK => ?_) AllReadyH.nil
          go_simp
          refine hK.out _ _ e1 (fun hHeld => ?_)
          clear hK K
          try simp only [Act.put, List.setIfInBounds_toArray, List.set_cons_zero, List.set_cons_succ]
          refine wpAnyH_take (i := 7) (oi := ⟨_, _, _, _, _, _⟩) (v := ?_) rfl (by kernel_rfl) (by kernel_rfl) (by kernel_rfl) (fun _ _ _ h => h) (Or.inl ⟨by rfl, ?_⟩) (by assumption) ?_
          rotate_left
          · intro w hSw; (try dsimp only at hSw); go_simp; (try (with_reducible rfl))
          try simp only [Act.put, List.setIfInBounds_toArray, List.set_cons_zero, List.set_cons_succ]
          refine wpAnyH_ready (rs := [8]) (by kernel_rfl) (by simp) ?_
          refine AllReadyH.cons (o := ⟨_, _, _, _, _, _⟩) rfl (fun K hK => ?_) AllReadyH.nil
          go_simp
          have e2 : ((w6.setCell ⟨wr.heap.size + 1, 1, none⟩ (.bool true)).setCell ⟨wr.heap.size + 1, 2, none⟩ (.string f2)).drew.cell? ⟨b', off + i * 2 + 1, none⟩ = some (.string f2) := e2
          generalize ((w6.setCell ⟨wr.heap.size + 1, 1, none⟩ (.bool true)).setCell ⟨wr.heap.size + 1, 2, none⟩ (.string f2)).drew = w8 at *
          refine hK.out _ _ e2 (fun hHeld => ?_)
          clear hK K
          try simp only [Act.put, List.setIfInBounds_toArray, List.set_cons_zero, List.set_cons_succ]
          refine wpAnyH_done (by kernel_rfl) ?_ _
          clear hHeld c1 c2 f1' f2' e1 e2 h2 pk6 bb6
          have c0 := pk8.cell 0
          have c1 := pk8.cell 1
          have c2 := pk8.cell 2
          simp only [List.getElem?_cons_zero, List.getElem?_cons_succ] at c0 c1 c2
          have o6 := own_below o bb8
          have b6 := b.trans (bb8.mono b.size)
          clear o b pk8 bb8
          generalize wr.heap.size = g6 at *
          obtain ⟨A9, c9, w9, HRUN, o9, hb9⟩ := app_act o6 b6.size hxs (f1, true, f2)
          have b9 := b6.trans hb9
          clear o6 b6 hb9
          go_wp2_with (at_builtin; refine Lib.wpList_append_run _ rfl _ _ _ _ rfl _ _ rfl rfl _ _ HRUN.out ?_)
          go_roundw
          case rel => exact ⟨k + 1, xs ++ [(f1, true, f2)], by omega, by go_num, HX2, by simpa using o9, b9⟩
          case measure => simp [intOf]; omega
      · have HJ := hid (show k = P.length by omega)
        have hnlt2 : ¬ (k : Int) < P.length := by omega
        have HX3 : Hid (xs = P.map (wasA t)) := by show _ = _; rw [HX.out, HJ.out, List.take_length]
        rw [hxl] at o
        obtain ⟨A6, c6, rfl⟩ := own_slice o
        have hcp := own_caps o
        have K : At wr A6 k c6 xs := ⟨hxl, rd_own3 hxl o, hcp.1, by omega, by have := hcp.2; unfold maxLen at this; omega, fun a ha => by
          rw [HX3.out] at ha
          obtain ⟨p, hp, rfl⟩ := List.mem_map.1 ha
          obtain ⟨e1, e2⟩ := was_sz (p := p) HT.out
          rw [e1]
          exact ⟨HPZ.out p hp, by omega⟩⟩
        have cn := net_any K
        have b6 := b5.trans (b.mono b5.size)
        have HNX : Hid (netL xs = undoL t l) := by show _ = _; rw [HX3.out, HN.out]
        clear K o b rd5 hcp HX3 HX hxl
        go_wp2_with fail
        refine cn.mono ?_
        rintro e w9 ⟨C9, q9, rfl, o9, hb9⟩
        clear cn
        have o10 := own_low (base' := w.heap.size) o9 b6.size
        have b10 := b6.trans (hb9.mono b6.size)
        rw [HNX.out] at o10 ⊢
        clear o9 hb9 b6
        go_wp2
        go_ret
        exact ⟨C9, q9, rfl, o10, b10⟩
end Go.Proofs.YtaidggjnpnfdhaaGreatDoor
namespace Go.Proofs.YtaidggjnpnfdhaaGreatDoor
open Go.RowKit

/-! ### Few actions -/
def fewA1 (a : Ac) : Bool := decide (a.1.size ≤ 100) && decide (a.2.2.size ≤ 1000)
def fewA (l : List Ac) : Bool := l.all fewA1 && decide (l.length ≤ 60)
theorem fewA_sz {l : List Ac} (h : fewA l = true) : l.length ≤ 60 ∧ ∀ a ∈ l, a.1.size ≤ 100 ∧ a.2.2.size ≤ 1000 := by
  simp only [fewA, fewA1, Bool.and_eq_true, decide_eq_true_eq, List.all_eq_true] at h
  exact ⟨h.2, h.1⟩
theorem fewA_no {l : List Ac} {j : Nat} (hj : j < l.length) (h : fewA1 l[j] = false) : false = fewA l := by
  cases hf : fewA l with
  | false => rfl
  | true =>
    rw [fewA, Bool.and_eq_true, List.all_eq_true] at hf
    rw [hf.1 _ (List.getElem_mem hj)] at h
    cases h
set_option maxHeartbeats 1000000 in
theorem fewA_any (A : Option Addr) (n c : Nat) (l : List Ac) (w : World) (hl : l.length = n) (hr : Rd w A (actV l)) (hn : n ≤ 9223372036854775807) :
    Calls Tryz.prog 7 #[.slice A n c] w fun e w' => e = .returned (.bool (fewA l)) ∧ w = w' := by
  have HL := hid hl
  clear hl
  go_enter Tryz.func7, Tryz.ntmps7
  go_wp2_with fail
  go_loop [3] (fun i => ∃ j : Nat, j ≤ n ∧ i = .int .i64 j ∧ Hid ((l.take j).all fewA1 = true)) (fun i => n - (intOf i).toNat)
  case atStart => exact ⟨0, by omega, rfl, by simp [Hid]⟩
  case round =>
    obtain ⟨j, hj, rfl, HO⟩ := hrel
    by_cases hjn : j < n
    · have hjl : j < l.length := by rw [HL.out]; exact hjn
      obtain ⟨b, off, rfl, h1, -, h2, -⟩ := hr.act hjl
      have HN := hid (@fewA_no l j hjl)
      have HK := hid (all_take_more fewA1 l j hjl)
      have hz : (0 : Int) ≤ j := by omega
      have hlt : (j : Int) < n := by omega
      generalize l[j] = a at *
      obtain ⟨x, q, d⟩ := a
      simp only at h1 h2
      by_cases hx : (100 : Int) < x.size
      · go_wp2
        go_ret
        exact ⟨ret_bool (HN.out (by simp [fewA1]; omega)), rfl⟩
      · have hxb : decide ((100 : Int) < x.size) = false := by simp; omega
        by_cases hd : (1000 : Int) < d.size
        · go_wp2
          go_ret
          exact ⟨ret_bool (HN.out (by simp [fewA1]; omega)), rfl⟩
        · have hdb : decide ((1000 : Int) < d.size) = false := by simp; omega
          go_wp2
          go_round
          case rel => exact ⟨j + 1, by omega, by go_num, hid (by rw [HK.out, HO.out]; simp [fewA1]; omega)⟩
          case measure => simp [intOf]; omega
    · have HE := hid (show j = n by omega)
      have hnlt : ¬ (j : Int) < n := by omega
      go_wp2
      go_ret
      refine ⟨ret_bool ?_, rfl⟩
      have ho := HO.out
      rw [HE.out, ← HL.out, List.take_length] at ho
      rw [fewA, ho, Bool.true_and, HL.out]
      by_cases h60 : n ≤ 60
      · rw [decide_eq_true h60, decide_eq_true (show (n : Int) ≤ 60 by omega)]
      · rw [decide_eq_false h60, decide_eq_false (show ¬ (n : Int) ≤ 60 by omega)]
theorem fewA_at {w : World} {A : Option Addr} {n c : Nat} {l : List Ac} (hf : fewA l = true) (hl : l.length = n) (hr : Rd w A (actV l)) (hc : n ≤ c) (hcm : c ≤ maxLen) : At w A n c l := by
  obtain ⟨h1, h2⟩ := fewA_sz hf
  exact ⟨hl, hr, hc, by omega, hcm, fun a hm => by have := h2 a hm; omega⟩

/-! ### Cuts of actions -/
theorem actV_drop (l : List Ac) (k : Nat) (hk : k ≤ l.length) : actV (l.drop k) = (actV l).drop (k * 3) := by
  have e : actV l = actV (l.take k) ++ actV (l.drop k) := by rw [← actV_append, List.take_append_drop]
  have hl : (actV (l.take k)).length = k * 3 := by rw [actV_length, List.length_take]; omega
  rw [e, ← hl, List.drop_left]
theorem actV_take (l : List Ac) (k : Nat) (hk : k ≤ l.length) : actV (l.take k) = (actV l).take (k * 3) := by
  have e : actV l = actV (l.take k) ++ actV (l.drop k) := by rw [← actV_append, List.take_append_drop]
  have hl : (actV (l.take k)).length = k * 3 := by rw [actV_length, List.length_take]; omega
  rw [e, ← hl, List.take_left]
theorem acuts {w : World} {A : Option Addr} {n c k : Nat} {l : List Ac} (h : At w A n c l) (hk : k ≤ n) :
    ∃ B1 B2, (∀ w, (Instr.slice 23 (.slice A n c) none (some (.int .i64 (k : Int))) none).run Tryz.prog w = .ok (.slice B1 k c) w) ∧ (∀ w, (Instr.slice 23 (.slice A n c) (some (.int .i64 (k : Int))) none none).run Tryz.prog w = .ok (.slice B2 (n - k) (c - k)) w) ∧
      At w B1 k c (l.take k) ∧ At w B2 (n - k) (c - k) (l.drop k) := by
  have hl := h.len
  have hcap := h.cap
  have hbig := h.big
  have hcm := h.capm
  refine ⟨if c = 0 then A else A.map (·.add 0), if c = k then A else A.map (·.add (k * 3)), fun w => ?_, fun w => ?_, ⟨by rw [List.length_take]; omega, ?_, by omega, by omega, hcm, fun a ha => h.sz a (List.mem_of_mem_take ha)⟩, ⟨by rw [List.length_drop]; omega, ?_, by omega, by omega, by omega, fun a ha => h.sz a (List.mem_of_mem_drop ha)⟩⟩
  · simp [Instr.slice, Instr.sliceBounds, Instr.sliceBound, run_underlying Tryz.underlying23, Tryz.sizeOf47, asIntOf]
    intro h
    omega
  · simp [Instr.slice, Instr.sliceBounds, Instr.sliceBound, run_underlying Tryz.underlying23, Tryz.sizeOf47, asIntOf]
    intro h
    omega
  · rw [actV_take l k (by omega)]
    have h1 := h.rd.pre (k * 3)
    have e : (if c = 0 then A else A.map (·.add 0)) = A := by
      split
      · rfl
      · cases A with
        | none => rfl
        | some ad => simp [Addr.add]
    rw [e]
    exact h1
  · rw [actV_drop l k (by omega)]
    by_cases hck : c = k
    · left
      have := actV_length l
      exact List.drop_eq_nil_of_le (by omega)
    · rw [if_neg hck]
      rcases h.rd with h1 | ⟨ad, rfl, hc⟩
      · left; rw [h1]; simp
      · refine .inr ⟨ad.add (k * 3), rfl, fun j u hu => ?_⟩
        rw [add_assoc']
        refine hc _ u ?_
        rw [← List.getElem?_drop]; exact hu

/-! ### What calls come to, in numbers -/
theorem do_val {w : World} {A B : Option Addr} {n c m d : Nat} {t : List Fil} {l : List Ac} (h : Ft w A n c t) (k : At w B m d l) (room : Int) {la : List Fil} {nA : Nat} {z : Int} (hA : doT t l room = la) (ha : la.length = nA) (hz : ((doN t l room : Nat) : Int) = z) :
    Calls Tryz.prog 8 #[.slice A n c, .slice B m d, .int .i64 room] w fun e w' => ∃ A' c', e = .returned (.tuple #[.slice A' nA c', .int .i64 z]) ∧ Rd w' A' (filV la) ∧ Below w.heap.size w w' :=
  (do_any h k room).mono fun e w' ⟨A', n', c', he, o, b⟩ => by
    rw [hA] at o
    have hn : n' = nA := by rw [← ha]; exact o.1.symm
    rw [hz, hn] at he
    exact ⟨A', c', he, o.rd, b⟩
/-- What is done, to be read and written on. -/
theorem do_ft {w : World} {A B : Option Addr} {n c m d : Nat} {t : List Fil} {l : List Ac} (h : Ft w A n c t) (k : At w B m d l) (room : Int) :
    Calls Tryz.prog 8 #[.slice A n c, .slice B m d, .int .i64 room] w fun e w' => ∃ A' c', e = .returned (.tuple #[.slice A' (doT t l room).length c', .int .i64 (doN t l room : Nat)]) ∧ Ft w' A' (doT t l room).length c' (doT t l room) ∧ OwnF w.heap.size w' A' (doT t l room).length c' (doT t l room) ∧ Below w.heap.size w w' :=
  (do_any h k room).mono fun e w' ⟨A', n', c', he, o, b⟩ => by
    have hn := o.1
    subst hn
    have hlen : (doT t l room).length ≤ 16 := by
      by_cases h0 : doN t l room = 0
      · exact (doT_right h0).few
      · rw [doT_not h0]; simp
    exact ⟨A', c', he, o.ft (by omega) (doT_P (P := fun f => f.1.size < 4294967281 ∧ f.2.size ≤ 140737488355328) h.sz fun a ha => k.sz a ha), o, b⟩
theorem undo_val {w : World} {A B : Option Addr} {n c m d : Nat} {t : List Fil} {l : List Ac} (h : Ft w A n c t) (k : At w B m d l) {la : List Ac} {nA : Nat} (hA : undoL t l = la) (ha : la.length = nA) :
    Calls Tryz.prog 12 #[.slice A n c, .slice B m d] w fun e w' => ∃ A' c', e = .returned (.slice A' nA c') ∧ Rd w' A' (actV la) ∧ Below w.heap.size w w' :=
  (undo_any h k).mono fun e w' ⟨A', c', he, o, b⟩ => by
    rw [hA] at he o
    rw [ha] at he o
    exact ⟨A', c', he, rd_own3 ha o, b⟩
theorem net_val {w : World} {A : Option Addr} {n c : Nat} {l : List Ac} (h : At w A n c l) {la : List Ac} {nA : Nat} (hA : netL l = la) (ha : la.length = nA) :
    Calls Tryz.prog 14 #[.slice A n c] w fun e w' => ∃ A' c', e = .returned (.slice A' nA c') ∧ Rd w' A' (actV la) ∧ nA ≤ c' ∧ c' ≤ maxLen ∧ Below w.heap.size w w' :=
  (net_any h).mono fun e w' ⟨A', c', he, o, b⟩ => by
    rw [hA] at he o
    rw [ha] at he o
    have hcp := own_caps o
    exact ⟨A', c', he, rd_own3 ha o, hcp.1, hcp.2, b⟩
theorem paths_val {w : World} {A : Option Addr} {n c : Nat} {l : List Ac} (h : At w A n c l) {la : List ByteArray} {nA : Nat} (hA : pathsA l = la) (ha : la.length = nA) :
    Calls Tryz.prog 17 #[.slice A n c] w fun e w' => ∃ A' c', e = .returned (.slice A' nA c') ∧ Rd w' A' (strV la) ∧ Below w.heap.size w w' :=
  (paths_any h).mono fun e w' ⟨A', c', he, o, b⟩ => by
    rw [hA] at he o
    rw [ha] at he o
    exact ⟨A', c', he, Rd.of_own o, b⟩

/-! ### The small case's lists -/
abbrev ya : ByteArray := ⟨#[97]⟩
abbrev yb : ByteArray := ⟨#[98]⟩
abbrev yc : ByteArray := ⟨#[99]⟩
abbrev yz : ByteArray := ⟨#[122]⟩
abbrev yab : ByteArray := ⟨#[97, 47, 98]⟩
abbrev y1 : ByteArray := ⟨#[49]⟩
abbrev y22 : ByteArray := ⟨#[50, 50]⟩
abbrev YT : List Fil := [(ya, y1)]
abbrev YL : List Ac := [(ya, false, noS), (yab, true, y22)]
abbrev YM : List Ac := [(yab, true, y22)]
abbrev YN : List Ac := [(yz, true, noS), (yb, false, noS), (yz, true, y1), (yc, false, noS)]
abbrev YP : List Ac := [(yb, false, noS), (yc, false, noS), (yz, true, y1)]
theorem y_d1 : doN YT YL 9 = 0 := by decide +kernel
theorem y_t1 : doT YT YL 9 = [(yab, y22)] := by decide +kernel
theorem y_d2 : doN YT YM 9 = 6 := by decide +kernel
theorem y_t2 : doT YT YM 9 = [] := by decide +kernel
theorem y_d3 : doN YT YL 1 = 2 := by decide +kernel
theorem y_t3 : doT YT YL 1 = [] := by decide +kernel
theorem y_u : undoL YT YL = [(yab, false, noS), (ya, true, y1)] := by decide +kernel
theorem y_n : netL YN = YP := by decide +kernel
theorem y_p : pathsA YP = [yb, yc, yz] := by decide +kernel
end Go.Proofs.YtaidggjnpnfdhaaGreatDoor
namespace Go.Proofs.YtaidggjnpnfdhaaGreatDoor
open Go.RowKit

set_option maxRecDepth 20000 in
set_option maxHeartbeats 1000000 in
theorem small11_any (w : World) : Calls Tryz.prog 5 #[] w fun e w' => e = .returned (.bool true) ∧ Below w.heap.size w w' := by
  have hal : ∀ (W : World) (o : Obj), Below W.heap.size W (W.alloc o) := fun W o => (Below.refl _ _).alloc (Nat.le_refl _) o
  have T0 : Ft ((w.alloc (.cells #[.string ⟨#[97]⟩, .string ⟨#[49]⟩] 38)).alloc (.cells #[.string ⟨#[97]⟩, .bool false, .string ⟨#[]⟩, .string ⟨#[97, 47, 98]⟩, .bool true, .string ⟨#[50, 50]⟩] 47)) (some ⟨w.heap.size, 0, none⟩) 1 1 YT :=
    ⟨rfl, (Blk.below (Blk.new w (filV YT) 38) (hal _ _)).rd, Nat.le_refl _, by omega, by omega, by decide⟩
  have L0 : At ((w.alloc (.cells #[.string ⟨#[97]⟩, .string ⟨#[49]⟩] 38)).alloc (.cells #[.string ⟨#[97]⟩, .bool false, .string ⟨#[]⟩, .string ⟨#[97, 47, 98]⟩, .bool true, .string ⟨#[50, 50]⟩] 47)) (some ⟨w.heap.size + 1, 0, none⟩) 2 2 YL := by
    have hs : (w.alloc (.cells #[.string ⟨#[97]⟩, .string ⟨#[49]⟩] 38)).heap.size = w.heap.size + 1 := by simp
    refine ⟨rfl, ?_, Nat.le_refl _, by omega, by omega, by decide⟩
    rw [← hs]
    exact (Blk.new (w.alloc (.cells #[.string ⟨#[97]⟩, .string ⟨#[49]⟩] 38)) (actV YL) 47).rd
  have b0 := below2 (hal w (.cells #[.string ⟨#[97]⟩, .string ⟨#[49]⟩] 38)) (hal _ (.cells #[.string ⟨#[97]⟩, .bool false, .string ⟨#[]⟩, .string ⟨#[97, 47, 98]⟩, .bool true, .string ⟨#[50, 50]⟩] 47))
  go_enter Tryz.func5, Tryz.ntmps5
  go_wp2_with fail
  generalize (w.alloc (.cells #[.string ⟨#[97]⟩, .string ⟨#[49]⟩] 38)).alloc (.cells #[.string ⟨#[97]⟩, .bool false, .string ⟨#[]⟩, .string ⟨#[97, 47, 98]⟩, .bool true, .string ⟨#[50, 50]⟩] 47) = w0 at *
  refine (do_val T0 L0 9 y_t1 (show _ = 1 from rfl) (show _ = 0 by rw [y_d1]; rfl)).mono ?_
  rintro e w1 ⟨A1, c1, rfl, x1, hb1⟩
  have T1 := T0.below hb1
  have L1 := L0.below hb1
  have b1 := below2 b0 hb1
  obtain ⟨-, B1, -, hcut, -, M1⟩ := acuts (k := 1) L1 (by omega)
  have hcut : ∀ W, (Instr.slice 23 (.slice (some ⟨w.heap.size + 1, 0, none⟩) 2 2) (some (.int .i64 1)) none none).run Tryz.prog W = .ok (.slice B1 1 1) W := fun W => hcut W
  have M1 : At w1 B1 1 1 YM := M1
  clear T0 L0 b0 hb1
  go_wp2_with fail
  refine (do_val T1 M1 9 y_t2 (show _ = 0 from rfl) (show _ = 6 by rw [y_d2]; rfl)).mono ?_
  rintro e w2 ⟨A2, c2, rfl, -, hb2⟩
  have T2 := T1.below hb2
  have L2 := L1.below hb2
  have x2 := x1.below hb2
  have b2 := below2 b1 hb2
  clear T1 L1 M1 b1 hb2 x1 hcut
  go_wp2_with fail
  refine (do_val T2 L2 1 y_t3 (show _ = 0 from rfl) (show _ = 2 by rw [y_d3]; rfl)).mono ?_
  rintro e w3 ⟨A3, c3, rfl, -, hb3⟩
  have T3 := T2.below hb3
  have L3 := L2.below hb3
  have x3 := x2.below hb3
  have b3 := below2 b2 hb3
  clear T2 L2 b2 hb3 x2
  go_wp2_with fail
  refine (undo_val T3 L3 y_u (show _ = 2 from rfl)).mono ?_
  rintro e w4 ⟨A4, c4, rfl, u4, hb4⟩
  have x4 := x3.below hb4
  have b4 := below2 b3 hb4
  have N4 : At (w4.alloc (.cells #[.string ⟨#[122]⟩, .bool true, .string ⟨#[]⟩, .string ⟨#[98]⟩, .bool false, .string ⟨#[]⟩, .string ⟨#[122]⟩, .bool true, .string ⟨#[49]⟩, .string ⟨#[99]⟩, .bool false, .string ⟨#[]⟩] 47)) (some ⟨w4.heap.size, 0, none⟩) 4 4 YN :=
    ⟨rfl, (Blk.new w4 (actV YN) 47).rd, Nat.le_refl _, by omega, by omega, by decide⟩
  have h4 := hal w4 (.cells #[.string ⟨#[122]⟩, .bool true, .string ⟨#[]⟩, .string ⟨#[98]⟩, .bool false, .string ⟨#[]⟩, .string ⟨#[122]⟩, .bool true, .string ⟨#[49]⟩, .string ⟨#[99]⟩, .bool false, .string ⟨#[]⟩] 47)
  clear T3 L3 b3 hb4 x3
  go_wp2_with fail
  generalize w4.alloc (.cells #[.string ⟨#[122]⟩, .bool true, .string ⟨#[]⟩, .string ⟨#[98]⟩, .bool false, .string ⟨#[]⟩, .string ⟨#[122]⟩, .bool true, .string ⟨#[49]⟩, .string ⟨#[99]⟩, .bool false, .string ⟨#[]⟩] 47) = w4' at *
  refine (net_val N4 y_n (show _ = 3 from rfl)).mono ?_
  rintro e w5 ⟨A5, c5, rfl, n5, hc5, hm5, hb5⟩
  have hb5' := below2 h4 hb5
  have x5 := x4.below hb5'
  have u5 := u4.below hb5'
  have b5 := below2 b4 hb5'
  have P5 : At w5 A5 3 c5 YP := ⟨rfl, n5, hc5, by omega, by unfold maxLen at hm5; exact hm5, by decide⟩
  clear N4 h4 x4 u4 b4 hb5 hb5'
  go_wp2_with fail
  refine (paths_val P5 y_p (show _ = 3 from rfl)).mono ?_
  rintro e w6 ⟨A6, c6, rfl, p6, hb6⟩
  have x6 := x5.below hb6
  have u6 := u5.below hb6
  have n6 := n5.below hb6
  have b6 := below2 b5 hb6
  clear P5 x5 u5 n5 b5 hb6
  obtain ⟨gx, ox, rfl, f0, f1, -⟩ := x6.fil (j := 0) (by decide)
  obtain ⟨gu, ou, rfl, v0, v1, v2, -⟩ := u6.act (j := 0) (by decide)
  obtain ⟨g, o, e0, v3, v4, v5, -⟩ := u6.act (j := 1) (by decide)
  injection e0 with e0; injection e0 with e0 e0'; subst e0 e0'
  obtain ⟨gn, on_, rfl, s0, -, -, -⟩ := n6.act (j := 0) (by decide)
  obtain ⟨g, o, e0, -, -, s8, -⟩ := n6.act (j := 2) (by decide)
  injection e0 with e0; injection e0 with e0 e0'; subst e0 e0'
  obtain ⟨gp, op, rfl, q2, -⟩ := str_at p6 (j := 2) (by decide)
  simp only [List.getElem_cons_zero, List.getElem_cons_succ, Nat.zero_mul, Nat.add_zero, Nat.reduceMul] at f0 f1 v0 v1 v2 v3 v4 v5 s0 s8 q2
  have Q1 := eqF (yab, y22) (yab, y22)
  have Q2 := eqAc (yab, false, noS) (yab, false, noS)
  have Q3 := eqAc (ya, true, y1) (ya, true, y1)
  rw [decide_eq_true rfl] at Q1 Q2 Q3
  clear x6 u6 n6 p6
  go_wp2
  go_ret
  exact ⟨rfl, b6⟩
end Go.Proofs.YtaidggjnpnfdhaaGreatDoor
namespace Go.Proofs.YtaidggjnpnfdhaaGreatDoor
open Go.RowKit

theorem neqAc (f g : Ac) (w : World) : (binOp .neq 47 (acA f) (acA g)).run Tryz.prog w = .ok (.bool (!decide (f = g))) w := by
  have u9 := Tryz.underlying9
  have a9 := Tryz.isAgg9
  have z9 := Tryz.sizeOf9
  have u4 := Tryz.underlying4
  have a4 := Tryz.isAgg4
  have z4 := Tryz.sizeOf4
  have hS : Tryz.prog.underlying 47 = some (.struct (Tryz.prog.fieldsOf 47)) := by kernel_rfl
  have hp : Tryz.prog.stoodInHeld 47 = false := by kernel_rfl
  obtain ⟨f1, f2, f3⟩ := f
  obtain ⟨g1, g2, g3⟩ := g
  rw [run_neq_struct, show (10000 : Nat) = 9999 + 1 from rfl, run_equalIn_agg w 9999 47 _ _ hS hp]
  simp only [Program.fieldsOf, Tryz.underlying47]
  go_simp
  have inj : ∀ {a b : ByteArray}, a.toList = b.toList → a = b := fun h => data_inj (by rw [← Lib.toList_data, ← Lib.toList_data]; exact h)
  by_cases h1 : f1.toList = g1.toList
  · by_cases h2 : f2 = g2
    · by_cases h3 : f3.toList = g3.toList
      · rw [if_pos h1, if_pos h2, if_pos h3, decide_eq_true (inj h1), decide_eq_true h2, decide_eq_true (inj h3)]; rfl
      · rw [if_pos h1, if_pos h2, if_neg h3, decide_eq_true (inj h1), decide_eq_true h2, decide_eq_false (fun e => h3 (congrArg ByteArray.toList e))]; rfl
    · rw [if_pos h1, if_neg h2, decide_eq_true (inj h1), decide_eq_false h2]; rfl
  · rw [if_neg h1, decide_eq_false (fun e => h1 (congrArg ByteArray.toList e))]; rfl
theorem planA_len (t : List Fil) (es : List Ent) : (planA t es).length ≤ 32 := by
  unfold planA
  split
  · rename_i h
    unfold planN at h
    split at h
    · rename_i hk
      rw [Bool.and_eq_true] at hk
      have h1 := ((treeR_iff t).1 hk.1).few
      have h2 := ((treeR_iff _).1 ((archR_iff es).1 hk.2).tree).few
      have h3 := drops_len t (treeE es)
      have h4 := puts_len t (treeE es)
      have h5 : (treeE es).length = (filesOf es).length := by rw [treeE, hk.2, if_pos rfl]
      unfold planL
      rw [List.length_append]
      omega
    · cases h
  · simp

set_option maxHeartbeats 1000000 in
theorem racts_any {w : World} {A B : Option Addr} {n c d : Nat} {l : List Ac} (hl : l.length = n) (hr : Rd w A (actV l)) (hr2 : Rd w B (actV l)) (hn : n ≤ 1000000) :
    Calls Tryz.prog 11 #[.slice A n c, .slice B n d] w fun e w' => e = .returned (.bool true) ∧ Below w.heap.size w w' := by
  have HL := hid hl
  clear hl
  go_enter Tryz.func11, Tryz.ntmps11
  go_wp2
  go_loopw [5] (fun i wr => ∃ j : Nat, j ≤ n ∧ i = .int .i64 j ∧ ∃ q, wr = w.drewN q) (fun i _ => n - (intOf i).toNat)
  case atStart => exact ⟨0, by omega, rfl, 0, rfl⟩
  case round =>
    obtain ⟨j, hj, rfl, q, rfl⟩ := hrel
    by_cases hjn : j < n
    · have hjl : j < l.length := by rw [HL.out]; exact hjn
      obtain ⟨b, off, rfl, h1, h2, h3, -⟩ := hr.act hjl
      obtain ⟨b', off', rfl, g1, g2, g3, -⟩ := hr2.act hjl
      have hz : (0 : Int) ≤ j := by omega
      have hlt : (j : Int) < n := by omega
      have hneq := neqAc l[j] l[j]
      generalize l[j] = f at *
      rw [decide_eq_true rfl] at hneq
      obtain ⟨f1, f2, f3⟩ := f
      dsimp only at h1 h2 h3 g1 g2 g3
      go_wp2_with fail
      go_quiet (fail)
      go_wp2
      go_roundw
      case rel => exact ⟨j + 1, by omega, by go_num, _, rfl⟩
      case measure => simp [intOf]; omega
    · have hnlt : ¬ (j : Int) < n := by omega
      go_wp2
      go_ret
      exact ⟨rfl, below_drewN (Below.refl _ _) _⟩
end Go.Proofs.YtaidggjnpnfdhaaGreatDoor
