/- Package scan: Right, Find. -/
import Derived.Test.YtnkkjedckehoaaaDoorSd
namespace Go.Proofs.YtnkkjedckehoaaaDoor
open Go.RowKit

/-- Files in memory of the call's own. -/
theorem own2_ft {w : World} {base : Nat} {v : Value} {fs : List Fil} (h : w.ownsRow base 53 2 v fs.length (filV fs)) (hn : fs.length ≤ 1000000) (hs : ∀ f ∈ fs, SzF f) : ∃ A c, v = .slice A fs.length c ∧ Ft w A fs.length c fs := by
  rcases h.2 with ⟨rfl, h0⟩ | ⟨g, cap, cur, rfl, _, _, h1, h2, _⟩
  · exact ⟨none, 0, by rw [h0], rfl, .inl (List.eq_nil_of_length_eq_zero (by rw [filV_length, h0])), by omega, by omega, by omega, hs⟩
  · exact ⟨_, cap, rfl, rfl, .inr ⟨_, rfl, h.cells (g := g) rfl⟩, h1, by omega, h2, hs⟩
theorem files_sz {es : List Ent} (h : ∀ e ∈ es, SzE e) : ∀ f ∈ filesOf es, SzF f := by
  intro f hf
  obtain ⟨e, he, -, rfl⟩ := mem_files.1 hf
  exact h e he
set_option maxHeartbeats 400000 in
theorem collect_any (Bn : Nat) (A : Option Addr) (n c : Nat) (es : List Ent) (w : World) (hl : es.length = n) (hr : Rd w A (entV es)) (hn : n ≤ 1000000) (hsz : ∀ e ∈ es, SzE e) (hc : w.cell? ⟨Bn, 0, none⟩ = some (.slice A n c)) :
    Calls Tryd.prog 42 #[.func (.func 65) #[] #[.pointer (some ⟨Bn, 0, none⟩)]] w fun e w' =>
      ∃ B d, e = .returned (.slice B (filesOf es).length d) ∧ Ft w' B (filesOf es).length d (filesOf es) ∧ Below w.heap.size w w' := by
  have c0 := appendSeq_any Bn A n c es w hl hr hn hsz hc
  have HS := hid (files_sz hsz)
  have HN := hid (filesOf_len es)
  clear hc hr hsz
  go_enter Tryd.func42, Tryd.ntmps42
  go_wp2_with fail
  refine c0.mono ?_
  clear c0
  rintro e w1 ⟨v, rfl, hrow, hb⟩
  obtain ⟨B, d, rfl, hft⟩ := own2_ft hrow (by have := HN.out; omega) HS.out
  go_wp2
  go_ret
  exact ⟨B, d, rfl, hft, hb⟩

theorem all_take_moreE (q : Ent → Bool) (l : List Ent) (j : Nat) (h : j < l.length) : (l.take (j + 1)).all q = ((l.take j).all q && q l[j]) := all_take_more q l j h
set_option maxHeartbeats 2000000 in
theorem archR_any {w : World} {A : Option Addr} {n c : Nat} {es : List Ent} (h : Et w A n c es) :
    Calls Tryd.prog 17 #[.slice A n c] w fun e w' => e = .returned (.bool (archR es)) ∧ Below w.heap.size w w' := by
  have hr := h.rd
  have hnb := h.big
  have HF : Hid (∀ e ∈ es, SzE e) := h.sz
  have HL := hid h.len
  clear h
  by_cases h32 : (32 : Int) < n
  · go_enter Tryd.func17, Tryd.ntmps17
    go_wp2
    go_ret
    refine ⟨ret_bool ?_, Below.refl _ _⟩
    symm
    refine archR_no fun h => ?_
    have := h.few
    have := HL.out
    omega
  · have hmk := make_strs n (by omega)
    go_enter Tryd.func17, Tryd.ntmps17
    go_upto_region 5 with (fail)
    go_loopw [14] (fun i wr => ∃ j : Nat, j ≤ n ∧ i = .int .i64 j ∧ Blk wr w.heap.size (fill (strV (es.map (·.path))) (.string ⟨#[]⟩) j) 9 ∧ Below w.heap.size w wr ∧ Hid ((es.take j).all fineE = true)) (fun i _ => n - (intOf i).toNat)
    case atStart =>
      refine ⟨0, by omega, rfl, ?_, (Below.refl _ _).alloc (Nat.le_refl _) _, by simp [Hid]⟩
      have := Blk.new w (List.replicate n (Value.string ⟨#[]⟩)) 9
      rw [fill_zero, strV_length, List.length_map, HL.out]
      simpa using this
    case round =>
      obtain ⟨j, hj, rfl, hblk, hb, HO⟩ := hrel
      by_cases hjn : j < n
      · have hjl : j < es.length := by rw [HL.out]; exact hjn
        have hr1 := hr.below hb
        obtain ⟨b, off, rfl, h1, h2, h3, h4, h5, -⟩ := hr1.ent hjl
        have hz : (0 : Int) ≤ j := by omega
        have hlt : (j : Int) < n := by omega
        clear hr1
        go_upto_region 7 with (fail)
        have HK := hid (all_take_more fineE es j hjl)
        have HX := hid (show (strV (es.map (·.path)))[j]? = some (.string es[j].path) by simp [strV, hjl])
        have hblk2 := hblk.below ((Below.refl _ _).alloc (Nat.le_refl _) (.cells #[.string es[j].path, .bool es[j].has, .string es[j].data, .int .i64 es[j].l, .int .i64 es[j].r] 37))
        have hb2 := hb.alloc hb.size (.cells #[.string es[j].path, .bool es[j].has, .string es[j].data, .int .i64 es[j].l, .int .i64 es[j].r] 37)
        have k := Blk.new wr [.string es[j].path, .bool es[j].has, .string es[j].data, .int .i64 es[j].l, .int .i64 es[j].r] 37
        have HM := hid (List.getElem_mem hjl)
        clear hblk hb h1 h2 h3 h4 h5
        generalize es[j] = f at *
        generalize wr.alloc (.cells #[.string f.path, .bool f.has, .string f.data, .int .i64 f.l, .int .i64 f.r] 37) = wa at *
        generalize wr.heap.size = g at *
        have k1 := k.cell 0
        have k2 := k.cell 1
        have k3 := k.cell 2
        have k4 := k.cell 3
        have k5 := k.cell 4
        simp only [List.getElem?_cons_zero, List.getElem?_cons_succ] at k1 k2 k3 k4 k5
        go_wp2_with fail
        refine (efine_any f _).mono ?_
        rintro e w1 ⟨rfl, hb1⟩
        have hblk3 := hblk2.below hb1
        have hb3 := hb2.trans (hb1.mono hb2.size)
        have k6 := (k.below hb1).cell 0
        simp only [List.getElem?_cons_zero] at k6
        clear hblk2 hb2 k k1 k2 k3 k4 k5 hb1
        cases hq : fineE f with
        | false =>
          have HQ := hid hq
          clear hq
          go_wp2
          go_ret
          refine ⟨ret_bool ?_, hb3⟩
          symm
          refine archR_no fun h => ?_
          have := h.fine f HM.out
          rw [HQ.out] at this
          cases this
        | true =>
          have c1 := hblk3.cell j
          rw [fill_at _ _ _ (by rw [strV_length, List.length_map]; exact hjl)] at c1
          have c2 := hblk3.frozen j
          have hblk4 := hblk3.set_ j (.string f.path)
          rw [fill_set _ _ _ _ HX.out] at hblk4
          have hb4 : Below w.heap.size w (w1.setCell ⟨w.heap.size, j, none⟩ (.string f.path)) := hb3.grown (grown_set j _) hb3.size (by intro k hk; injection hk with hk; omega)
          clear hblk3
          go_wp2
          go_roundw
          case rel => exact ⟨j + 1, by omega, by go_num, hblk4, hb4, hid (by rw [HK.out, HO.out, hq]; rfl)⟩
          case measure => simp [intOf]; omega
      · have HE := hid (show j = n by omega)
        have hnlt : ¬ (j : Int) < n := by omega
        have ho := HO.out
        have e1 : j = es.length := by rw [HL.out]; omega
        rw [e1, List.take_length] at ho
        have HD := hid ho
        have e2 : (strV (es.map (·.path))).length = es.length := by rw [strV_length, List.length_map]
        rw [show j = (strV (es.map (·.path))).length by rw [e2]; exact e1, fill_all] at hblk
        have hrd : Rd wr (some ⟨w.heap.size, 0, none⟩) (strV (es.map (·.path))) := hblk.rd
        have HLL := hid (show lst (es.map (·.path)) = es.map epth by simp [lst, epth])
        have HFN := hid (show (es.map (·.path)).length = n by rw [List.length_map, HL.out])
        have HSS : Hid (∀ s ∈ es.map (·.path), s.size < 4294967281) := by
          intro s hs
          obtain ⟨f, hf, rfl⟩ := List.mem_map.1 hs
          exact (HF.out f hf).1
        clear ho e1 e2 hblk HO
        have hn32 : es.length ≤ 32 := by rw [HL.out]; omega
        have HT := hid (show archR es = (sortedL (es.map epth) && treeR (filesOf es)) by rw [archR, HD.out, decide_eq_true hn32]; rfl)
        clear hn32
        go_wp2_with fail
        refine (sorted_any _ n n (es.map (·.path)) _ HFN.out hrd (by omega) HSS.out).mono ?_
        rintro e w1 ⟨rfl, hb1⟩
        rw [HLL.out]
        have hb1' := below2 hb hb1
        clear hrd hb hb1
        cases hq : sortedL (es.map epth)
        · rw [hq] at HT
          go_wp2
          go_ret
          exact ⟨ret_bool HT.out.symm, hb1'⟩
        · rw [hq, Bool.true_and] at HT
          have hr1 := hr.below hb1'
          go_wp2_with fail
          refine (files_any A n c _).mono ?_
          rintro e w2 ⟨rfl, rfl⟩
          go_wp2_with fail
          refine (collect_any w1.heap.size A n c es _ HL.out (hr1.alloc _) hnb HF.out (Boxed.new w1 _ _).cell).mono ?_
          rintro e w3 ⟨B, d, rfl, hft, hb3⟩
          have hb3' := below2 hb1' (below_new _ hb3)
          clear hb1' hb3 hr1
          go_wp2_with fail
          refine (tree_any hft).mono ?_
          rintro e w4 ⟨rfl, hb4⟩
          go_wp2
          go_ret
          exact ⟨ret_bool HT.out.symm, below2 hb3' hb4⟩

def findE (es : List Ent) (p : ByteArray) : Int := if archR es then idxE es p else -1
set_option maxHeartbeats 1000000 in
theorem findE_any {w : World} {A : Option Addr} {n c : Nat} {es : List Ent} (h : Et w A n c es) (p : ByteArray) :
    Calls Tryd.prog 19 #[.slice A n c, .string p] w fun e w' => e = .returned (.int .i64 (findE es p)) ∧ Below w.heap.size w w' := by
  have hmf : ∀ (fn : Fn) (first cap : Array Value) (w : World), (Instr.makeFunc fn first cap).run Tryd.prog w = .ok (.func fn first cap) w := fun _ _ _ _ => rfl
  have h1 := h.below ((Below.refl _ _).alloc (Nat.le_refl _) (.cells #[.string p] 9))
  go_enter Tryd.func19, Tryd.ntmps19
  go_wp2_with fail
  refine (archR_any h1).mono ?_
  rintro e w1 ⟨rfl, hb1⟩
  have hx := (hb1.cell (p := ⟨w.heap.size, 0, none⟩) (by simp)).trans (Boxed.new w 9 (.string p)).cell
  have h2 := h1.below hb1
  have hb1' := below_new _ hb1
  clear hb1 h1 h
  cases hR : archR es
  · have HR := hid hR
    clear hR
    go_wp2
    go_ret
    exact ⟨ret_int (by rw [findE, HR.out]; rfl), hb1'⟩
  · have HR := hid hR
    clear hR
    have c0 := idxE_any w.heap.size A n c es p w1 h2.len hx h2.rd h2.big
    clear h2 hx
    go_wp2_with fail
    refine c0.mono ?_
    clear c0
    rintro e w2 ⟨rfl, hb2⟩
    go_wp2
    go_ret
    exact ⟨ret_int (by rw [findE, HR.out]; rfl), below2 hb1' hb2⟩
end Go.Proofs.YtnkkjedckehoaaaDoor
