/- tree.Put, tree.Drop. -/
import Derived.Test.YtblfpmlnpaibkaaDoorTi
namespace Go.Proofs.YtblfpmlnpaibkaaDoor
open Go.RowKit

/-- A slice of files in memory of the call's own. -/
def OwnF (base : Nat) (w : World) (A : Option Addr) (n c : Nat) (fs : List Fil) : Prop :=
  fs.length = n ∧ n ≤ c ∧ c ≤ 9223372036854775807 ∧ (fs = [] ∨ ∃ g rest, A = some ⟨g, 0, none⟩ ∧ base ≤ g ∧ Blk w g (filV fs ++ rest) 33)
theorem OwnF.rd {base : Nat} {w : World} {A : Option Addr} {n c : Nat} {fs : List Fil} (h : OwnF base w A n c fs) : Rd w A (filV fs) := by
  rcases h.2.2.2 with rfl | ⟨g, rest, rfl, _, hB⟩
  · exact .inl rfl
  · exact .inr ⟨_, rfl, hB.read 0 _ (fun j u hu => by rw [Nat.zero_add, List.getElem?_append_left (List.getElem?_eq_some_iff.1 hu).1]; exact hu)⟩
theorem OwnF.ft {base : Nat} {w : World} {A : Option Addr} {n c : Nat} {fs : List Fil} (h : OwnF base w A n c fs) (hn : n ≤ 140737488355328) (hs : ∀ f ∈ fs, f.1.size < 4294967281 ∧ f.2.size ≤ 140737488355328) : Ft w A n c fs := ⟨h.1, h.rd, h.2.1, hn, h.2.2.1, hs⟩
theorem OwnF.below {base : Nat} {w w' : World} {A : Option Addr} {n c : Nat} {fs : List Fil} (h : OwnF base w A n c fs) (hb : Below w.heap.size w w') : OwnF base w' A n c fs := by
  obtain ⟨h1, h2, h3, h4⟩ := h
  refine ⟨h1, h2, h3, ?_⟩
  rcases h4 with h4 | ⟨g, rest, ha, hg, hB⟩
  · exact .inl h4
  · exact .inr ⟨g, rest, ha, hg, hB.below hb⟩
theorem OwnF.nil (base : Nat) (w : World) : OwnF base w none 0 0 [] := ⟨rfl, Nat.le_refl _, by omega, .inl rfl⟩

/-- Files, and an error's number, were answered. -/
def OutF (w : World) (out : List Fil) (er : Nat) (e : Ending) (w' : World) : Prop :=
  ∃ A n c, e = .returned (.tuple #[.slice A n c, .int .i64 er]) ∧ OwnF w.heap.size w' A n c out ∧ Below w.heap.size w w'

theorem filV_put (a b : List Fil) (x : Fil) (p d : ByteArray) (r : List Value) (k : Nat) (hk : a.length = k) : ((filV (a ++ x :: b) ++ r).set (k * 2) (.string p)).set (k * 2 + 1) (.string d) = filV (a ++ (p, d) :: b) ++ r := by
  have hl : (filV a).length = k * 2 := by rw [filV_length, hk]
  rw [filV_append, filV_append, filV_cons, filV_cons, List.append_assoc, List.append_assoc, List.set_append_right _ _ (by omega), List.set_append_right _ _ (by omega), hl, Nat.sub_self, show k * 2 + 1 - k * 2 = 1 by omega]
  rfl
theorem filV_mid (a b : List Fil) (x : Fil) (r : List Value) (k : Nat) (hk : a.length = k) : (filV (a ++ x :: b) ++ r)[k * 2]? = some (.string x.1) ∧ (filV (a ++ x :: b) ++ r)[k * 2 + 1]? = some (.string x.2) := by
  have hl : (filV a).length = k * 2 := by rw [filV_length, hk]
  rw [filV_append, filV_cons, List.append_assoc]
  constructor
  · rw [List.getElem?_append_right (by omega), hl, Nat.sub_self]; rfl
  · rw [List.getElem?_append_right (by omega), hl, show k * 2 + 1 - k * 2 = 1 by omega]; rfl
theorem putE_arg {fs : List Fil} {p d : ByteArray} (h : treeR fs = false) : putE fs p d = 1 := by simp [putE, h]
theorem putE_name {fs : List Fil} {p d : ByteArray} (h : treeR fs = true) (h2 : rightL p.data.toList = false ∨ clashT fs p.data.toList = true) : putE fs p d = 6 := by
  rcases h2 with h2 | h2 <;> simp [putE, h, h2]
theorem putE_full {fs : List Fil} {p d : ByteArray} (h : treeR fs = true) (h2 : rightL p.data.toList = true) (h3 : clashT fs p.data.toList = false) (h4 : 600 < d.size ∨ (thereT fs p.data.toList = false ∧ fs.length = 16)) : putE fs p d = 2 := by
  rcases h4 with h4 | ⟨h4, h5⟩
  · simp [putE, h, h2, h3, h4]
  · simp [putE, h, h2, h3, h4, h5]
theorem putT_err {fs : List Fil} {p d : ByteArray} {e : Nat} (h : putE fs p d = e) (he : e ≠ 0) : putT fs p d = [] := by rw [putT, if_neg (by rw [h]; exact he)]
theorem putT_ok {fs : List Fil} {p d : ByteArray} (h : putE fs p d = 0) : putT fs p d = putL fs p d := by rw [putT, if_pos h]
theorem out_err {w w' : World} {out : List Fil} {er e : Nat} (h : er = e) (ho : out = []) (hb : Below w.heap.size w w') : OutF w out er (.returned (.tuple #[.slice none 0 0, .int .i64 (e : Int)])) w' := by
  subst h ho
  exact ⟨none, 0, 0, rfl, OwnF.nil _ _, hb⟩
theorem low_split {fs : List Fil} {p : List UInt8} (h : Srt fs) (ht : thereT fs p = false) : fs.take (lowT fs p).length = lowT fs p ∧ fs.drop (lowT fs p).length = highT fs p := by
  rcases split_tree p h with ⟨_, b⟩ | ⟨d, a, _⟩
  · generalize lowT fs p = l at *
    generalize highT fs p = r at *
    subst b
    simp
  · rw [ht] at a; cases a

set_option maxHeartbeats 2000000 in
theorem put_any {w : World} {A : Option Addr} {n c : Nat} {fs : List Fil} (h : Ft w A n c fs) (p d : ByteArray) (hp : p.size < 4294967281) (hd : d.size ≤ 140737488355328) :
    Calls Tryd.prog 12 #[.slice A n c, .string p, .string d] w (OutF w (putT fs p d) (putE fs p d)) := by
  go_enter Tryd.func12, Tryd.ntmps12
  go_wp2_with fail
  refine (tree_any h).mono ?_
  rintro e w1 ⟨rfl, hb1⟩
  cases hR : treeR fs
  · have HE := hid (putE_arg (p := p) (d := d) hR)
    clear hR
    go_wp2
    go_ret2
    exact out_err HE.out (putT_err HE.out (by decide)) hb1
  · have HR := hid hR
    have hT := (treeR_iff fs).1 hR
    have h1 := h.below hb1
    clear hR h
    go_wp2_with fail
    refine (right_any p _ hp).mono ?_
    rintro e w2 ⟨rfl, hb2⟩
    have h2 := h1.below hb2
    have b2 := below2 hb1 hb2
    clear h1 hb1 hb2
    cases hr : rightL p.data.toList
    · have HE := hid (putE_name (p := p) (d := d) HR.out (.inl hr))
      clear hr
      go_wp2
      go_ret2
      exact out_err HE.out (putT_err HE.out (by decide)) b2
    · have HP := hid hr
      clear hr
      go_wp2_with fail
      refine (clashes_any A n c fs p _ h2.len h2.rd h2.big h2.sz1 hp).mono ?_
      rintro e w3 ⟨rfl, hb3⟩
      have h3 := h2.below hb3
      have b3 := below2 b2 hb3
      clear h2 b2 hb3
      cases hc : clashT fs p.data.toList
      · have HC := hid hc
        clear hc
        go_wp2_with fail
        refine (place_any A n c fs p _ h3.len hT.srt h3.rd h3.big).mono ?_
        rintro e w4 ⟨rfl, hb4⟩
        have h4 := h3.below hb4
        have b4 := below2 b3 hb4
        clear h3 b3 hb4
        have hn16 : n ≤ 16 := by have := hT.few; have := h4.len; omega
        have HZ := hid (@putE_zero fs p d)
        have HF := hid (@putE_full fs p d)
        by_cases h600 : (600 : Int) < d.size
        · have HE := hid (HF.out HR.out HP.out HC.out (.inl (by omega)))
          clear HF HZ
          go_wp2
          go_ret2
          exact out_err HE.out (putT_err HE.out (by decide)) b4
        · have h6b : decide ((600 : Int) < d.size) = false := by simp; omega
          cases ht : thereT fs p.data.toList
          · have HT := hid ht
            clear ht
            by_cases h16 : (n : Int) = 16
            · have HE := hid (HF.out HR.out HP.out HC.out (.inr ⟨HT.out, by rw [h4.len]; omega⟩))
              clear HF HZ
              go_wp2
              go_ret2
              exact out_err HE.out (putT_err HE.out (by decide)) b4
            · have HE := hid (HZ.out.2 ⟨hT, HP.out, HC.out, by omega, .inr (by rw [h4.len]; omega)⟩)
              have h16b : ((n : Int) == 16) = false := by simp; omega
              obtain ⟨hlo, hhi⟩ := low_split hT.srt HT.out
              have hkl : (lowT fs p.data.toList).length ≤ n := by rw [← h4.len]; exact low_len _
              have HPL := hid (show putL fs p d = lowT fs p.data.toList ++ (p, d) :: highT fs p.data.toList from rfl)
              have HPN := hid (put_len hT.srt p d)
              rw [HT.out, h4.len] at HPN
              clear HF HZ
              generalize hkk : (lowT fs p.data.toList).length = k at *
              have HKK := hid hkk
              have HLO := hid hlo
              have HHI := hid hhi
              clear hkk hlo hhi
              have hz0 : (0 : Int) ≤ k := by omega
              have hzn : (k : Int) < (n : Int) + 1 := by omega
              go_wp2_with fail
              refine (copied_any h4 (by omega)).mono ?_
              rintro e w5 ⟨rfl, hB5, hb5⟩
              have b5 := below2 b4 hb5
              go_wp2_with fail
              have hK5 := Blk.new w5 [zS, zS] 33
              have hB5' := hB5.below ((Below.refl _ _).alloc (Nat.le_refl _) (.cells #[zS, zS] 33))
              have b5' := b5.alloc b5.size (.cells #[zS, zS] 33)
              clear hB5 b5 hb5
              generalize w5.alloc (.cells #[zS, zS] 33) = w5a at *
              generalize w5.heap.size = g5 at *
              have HLN := hid h4.len
              clear h4 b4
              refine (insert_any hB5' hK5 HLN.out (by omega) hkl).mono ?_
              rintro e w6 ⟨G, c6, rest, rfl, hG, hc6, hcm, hB6, hb6⟩
              rw [HLO.out, HHI.out] at hB6
              have b6 := b5'.trans (hb6.mono b5'.size)
              have hGw : w.heap.size ≤ G := by have := b5'.size; omega
              clear hB5' hK5 b5' hb6 hG
              go_wp2_with fail
              refine (anew_any p d _ (by omega) (by omega)).mono ?_
              rintro e w7 ⟨rfl, hb7⟩
              have hB7 := hB6.below hb7
              have b7 := b6.trans (hb7.mono b6.size)
              obtain ⟨m0, m1⟩ := filV_mid (lowT fs p.data.toList) (highT fs p.data.toList) (⟨#[]⟩, ⟨#[]⟩) rest k HKK.out
              have c0 := (hB7.cell (k * 2)).trans m0
              have c1 := (hB7.cell (k * 2 + 1)).trans m1
              have f0 := hB7.frozen (k * 2)
              have f1 := hB7.frozen (k * 2 + 1)
              have hB8 := (hB7.set_ (k * 2) (.string p)).set_ (k * 2 + 1) (.string d)
              rw [filV_put _ _ _ _ _ _ _ HKK.out] at hB8
              have b8 := (b7.setCell (p := ⟨G, k * 2, none⟩) hGw (.string p)).setCell (p := ⟨G, k * 2 + 1, none⟩) hGw (.string d)
              have HB8 := hid hB8
              have HW8 := hid b8
              clear m0 m1 hB6 b6 hb7 hB7 b7 hB8 b8
              go_wp2
              go_ret2
              refine ⟨some ⟨G, 0, none⟩, n + 1, c6, by rw [HE.out]; rfl, ?_, HW8.out⟩
              rw [putT_ok HE.out]
              refine ⟨HPN.out, hc6, hcm, .inr ⟨G, rest, rfl, hGw, ?_⟩⟩
              rw [HPL.out]
              exact HB8.out
          · have HT := hid ht
            clear ht
            have HE := hid (HZ.out.2 ⟨hT, HP.out, HC.out, by omega, .inl HT.out⟩)
            have HPL := hid (show putL fs p d = lowT fs p.data.toList ++ (p, d) :: highT fs p.data.toList from rfl)
            have HPN := hid (put_len hT.srt p d)
            rw [HT.out, h4.len] at HPN
            obtain ⟨d0, hfs⟩ : ∃ d0, fs = lowT fs p.data.toList ++ (mkS p.data.toList, d0) :: highT fs p.data.toList := by
              rcases split_tree p.data.toList hT.srt with ⟨a, _⟩ | ⟨d0, _, b⟩
              · rw [HT.out] at a; cases a
              · exact ⟨d0, b⟩
            have hkl : (lowT fs p.data.toList).length < n := by
              have := congrArg List.length hfs
              rw [h4.len, List.length_append, List.length_cons] at this
              omega
            clear HF HZ
            have HFS := hid (congrArg filV hfs)
            clear hfs
            generalize hkk : (lowT fs p.data.toList).length = k at *
            have HKK := hid hkk
            clear hkk
            have hz0 : (0 : Int) ≤ k := by omega
            have hzn : (k : Int) < n := by omega
            go_wp2_with fail
            refine (copied_any h4 (by omega)).mono ?_
            rintro e w5 ⟨rfl, hB5, hb5⟩
            have b5 := below2 b4 hb5
            rw [HFS.out, ← List.append_nil (filV _)] at hB5
            go_wp2_with fail
            refine (anew_any p d _ (by omega) (by omega)).mono ?_
            rintro e w7 ⟨rfl, hb7⟩
            have hB7 := hB5.below hb7
            have b7 := b5.trans (hb7.mono b5.size)
            have hGw : w.heap.size ≤ w4.heap.size := b4.size
            obtain ⟨m0, m1⟩ := filV_mid (lowT fs p.data.toList) (highT fs p.data.toList) (mkS p.data.toList, d0) [] k HKK.out
            have c0 := (hB7.cell (k * 2)).trans m0
            have c1 := (hB7.cell (k * 2 + 1)).trans m1
            have f0 := hB7.frozen (k * 2)
            have f1 := hB7.frozen (k * 2 + 1)
            have hB8 := (hB7.set_ (k * 2) (.string p)).set_ (k * 2 + 1) (.string d)
            rw [filV_put _ _ _ _ _ _ _ HKK.out] at hB8
            have b8 := (b7.setCell (p := ⟨w4.heap.size, k * 2, none⟩) hGw (.string p)).setCell (p := ⟨w4.heap.size, k * 2 + 1, none⟩) hGw (.string d)
            have HB8 := hid hB8
            have HW8 := hid b8
            clear m0 m1 hB5 b5 hb5 hb7 hB7 b7 hB8 b8 h4 b4
            go_wp2
            go_ret2
            refine ⟨some ⟨w4.heap.size, 0, none⟩, n, n, by rw [HE.out]; rfl, ?_, HW8.out⟩
            rw [putT_ok HE.out]
            refine ⟨HPN.out, Nat.le_refl _, by omega, .inr ⟨w4.heap.size, [], rfl, hGw, ?_⟩⟩
            rw [HPL.out]
            exact HB8.out
      · have HE := hid (putE_name (p := p) (d := d) HR.out (.inr hc))
        clear hc
        go_wp2
        go_ret2
        exact out_err HE.out (putT_err HE.out (by decide)) b3

theorem dropE_arg {fs : List Fil} {p : List UInt8} (h : treeR fs = false) : dropE fs p = 1 := by simp [dropE, h]
theorem dropE_none {fs : List Fil} {p : List UInt8} (h : treeR fs = true) (h2 : thereT fs p = false) : dropE fs p = 3 := by simp [dropE, h, h2]
theorem dropE_ok {fs : List Fil} {p : List UInt8} (h : treeR fs = true) (h2 : thereT fs p = true) : dropE fs p = 0 := by simp [dropE, h, h2]
theorem dropT_err {fs : List Fil} {p : List UInt8} {e : Nat} (h : dropE fs p = e) (he : e ≠ 0) : dropT fs p = [] := by rw [dropT, if_neg (by rw [h]; exact he)]
theorem dropT_ok {fs : List Fil} {p : List UInt8} (h : dropE fs p = 0) : dropT fs p = dropL fs p := by rw [dropT, if_pos h]

set_option maxHeartbeats 1000000 in
theorem drop_any {w : World} {A : Option Addr} {n c : Nat} {fs : List Fil} (h : Ft w A n c fs) (p : ByteArray) :
    Calls Tryd.prog 14 #[.slice A n c, .string p] w (OutF w (dropT fs p.data.toList) (dropE fs p.data.toList)) := by
  go_enter Tryd.func14, Tryd.ntmps14
  go_wp2_with fail
  refine (tree_any h).mono ?_
  rintro e w1 ⟨rfl, hb1⟩
  cases hR : treeR fs
  · have HE := hid (dropE_arg (p := p.data.toList) hR)
    clear hR
    go_wp2
    go_ret2
    exact out_err HE.out (dropT_err HE.out (by decide)) hb1
  · have HR := hid hR
    have hT := (treeR_iff fs).1 hR
    have h1 := h.below hb1
    clear hR h
    go_wp2_with fail
    refine (place_any A n c fs p _ h1.len hT.srt h1.rd h1.big).mono ?_
    rintro e w4 ⟨rfl, hb4⟩
    have h4 := h1.below hb4
    have b4 := below2 hb1 hb4
    clear h1 hb1 hb4
    have hn16 : n ≤ 16 := by have := hT.few; have := h4.len; omega
    cases ht : thereT fs p.data.toList
    · have HE := hid (dropE_none HR.out ht)
      clear ht
      go_wp2
      go_ret2
      exact out_err HE.out (dropT_err HE.out (by decide)) b4
    · have HE := hid (dropE_ok HR.out ht)
      have HPN := hid (drop_len hT.srt p.data.toList)
      rw [ht, h4.len] at HPN
      obtain ⟨d0, hfs⟩ : ∃ d0, fs = lowT fs p.data.toList ++ (mkS p.data.toList, d0) :: highT fs p.data.toList := by
        rcases split_tree p.data.toList hT.srt with ⟨a, _⟩ | ⟨d0, _, b⟩
        · rw [ht] at a; cases a
        · exact ⟨d0, b⟩
      have HDL := hid (show fs.take (lowT fs p.data.toList).length ++ fs.drop ((lowT fs p.data.toList).length + 1) = dropL fs p.data.toList by
        rw [dropL]
        generalize lowT fs p.data.toList = l at *
        generalize highT fs p.data.toList = r at *
        subst hfs
        rw [List.take_left, List.drop_append, List.drop_of_length_le (by omega), show l.length + 1 - l.length = 1 by omega]
        rfl)
      have hkl : (lowT fs p.data.toList).length < n := by
        have := congrArg List.length hfs
        rw [h4.len, List.length_append, List.length_cons] at this
        omega
      clear hfs ht
      generalize (lowT fs p.data.toList).length = k at *
      obtain ⟨m, rfl⟩ : ∃ m, n = m + 1 := ⟨n - 1, by omega⟩
      go_wp2_with fail
      refine (copied_any h4 (by omega)).mono ?_
      rintro e w5 ⟨rfl, hB5, hb5⟩
      have b5 := below2 b4 hb5
      have hGw : w.heap.size ≤ w4.heap.size := b4.size
      have HLN := hid h4.len
      clear h4 hb5 b4
      go_wp2_with fail
      refine (delete_any hB5 HLN.out (by omega) (by omega)).mono ?_
      rintro e w6 ⟨rfl, ⟨rest, hB6⟩, hb6⟩
      have b6 := hb6 _ _ hGw b5
      rw [HDL.out] at hB6
      clear hB5 b5 hb6
      go_wp2
      go_ret2
      refine ⟨some ⟨w4.heap.size, 0, none⟩, m, m + 1, by rw [HE.out]; rfl, ?_, b6⟩
      rw [dropT_ok HE.out]
      exact ⟨HPN.out, by omega, by omega, .inr ⟨w4.heap.size, rest, rfl, hGw, hB6⟩⟩
end Go.Proofs.YtblfpmlnpaibkaaDoor
