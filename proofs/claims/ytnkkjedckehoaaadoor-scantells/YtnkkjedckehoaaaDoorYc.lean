/- App, Xc: in one text. -/
import Derived.Test.YtnkkjedckehoaaaDoorMem
import Derived.Test.YtnkkjedckehoaaaDoorXb
namespace Go.Proofs.YtnkkjedckehoaaaDoor
open Go.RowKit

/-- append(v, x...), v the call's own, elements of one cell. -/
theorem run_app {P : Program} (w : World) (base : Nat) (t ty e : TypeId) (z : Value) (bytes : Nat) (ht : P.underlying t = some (.slice e)) (hinf : (P.info? e).map (fun i => (i.zero, i.size, i.bytes)) = some (some z, 1, bytes)) (hz : z.cells.size = 1)
    (A : Option Addr) (n c : Nat) (xs : List Value) (hown : w.ownsRow base e 1 (.slice A n c) n xs)
    (B : Option Addr) (m d : Nat) (news : List Value) (hl : news.length = m) (hr : Rd w B news) (h1 : ∀ u ∈ news, u.oneCell' = true)
    (hbytes : (n + m) * bytes ≤ 140737488355328) (hbase : base ≤ w.heap.size) (h63 : n + m ≤ maxLen) :
    ∃ A' c' w', (Builtin.append_ #[t, t] ty #[.slice A n c, .slice B m d]).run P w = .ok (.slice A' (n + m) c') w' ∧ w'.ownsRow base e 1 (.slice A' (n + m) c') (n + m) (xs ++ news) ∧ w.grownBy w' (Value.slice A n c).ownBlock := by
  obtain ⟨i, hi, hz0, hz1, hz2⟩ := info_parts hinf
  have own : ∀ ad, (∀ j u, news[j]? = some u → w.cell? (ad.add j) = some u) → ∃ A' c' w', (Builtin.append_ #[t, t] ty #[.slice A n c, .slice (some ad) m d]).run P w = .ok (.slice A' (n + m) c') w' ∧ w'.ownsRow base e 1 (.slice A' (n + m) c') (n + m) (xs ++ news) ∧ w.grownBy w' (Value.slice A n c).ownBlock := by
    intro ad hc
    obtain ⟨v', w', h2, h3, h4, _⟩ := run_append_own (P := P) w base t ty e i z 1 bytes ht hi hz0 hz1 hz2 hz (by decide) _ n xs hown ad m d news (by omega) hc h1 h63 hbytes hbase
    obtain ⟨_, A', c', rfl, _⟩ := own_form h3
    exact ⟨A', c', w', h2, h3, h4⟩
  rcases hr with rfl | ⟨ad, rfl, hc⟩
  · have hm : m = 0 := by simpa using hl.symm
    subst hm
    cases B with
    | none => exact ⟨A, c, w, run_app_nil (P := P) w base t ty e i ht hi _ n xs hown d, by simpa using hown, World.grownBy.refl _ _⟩
    | some ad => exact own ad (by simp)
  · exact own ad hc

/-- append where the order is open: its run is known. -/
theorem stepApp {P : Program} {w w' : World} {ops : Array Oper} {o : Oper} {a : Act} {K : Act → World → Prop} {Q : Exit → Act → World → Prop} {E : Prop} (hw : Region.wanted o (yielded ops a.tmps) = true) (s x : Operand) (t : TypeId)
    (ho : o.op = .call { callee := .builtin .append, args := #[s, x], argTypes := #[t, t] }) (v1 v2 v : Value) (hs : a.eval s = v1) (hx : a.eval x = v2)
    (hrun : (Builtin.append_ #[t, t] o.type #[v1, v2]).run P w = .ok v w') (h : K (a.put o.dst v) w') : if Region.wanted o (yielded ops a.tmps) = true then Oper.wp P o a w K Q else E := by
  rw [if_pos hw]
  unfold Oper.wp
  simp [execOp, ho, resolve, invoke, builtin, hs, hx, hrun, Result.andThen]
  exact h

/-- append behind a guard that holds: its run is known. -/
theorem wpAppG {P : Program} {w w' : World} {ops : Array Oper} {rest : List Oper} {o : Oper} {a : Act} {Q : Exit → Act → World → Prop} (hw : Region.wanted o (yielded ops a.tmps) = true) (s x : Operand) (t : TypeId)
    (ho : o.op = .call { callee := .builtin .append, args := #[s, x], argTypes := #[t, t] }) (v1 v2 v : Value) (hs : a.eval s = v1) (hx : a.eval x = v2)
    (hrun : (Builtin.append_ #[t, t] o.type #[v1, v2]).run P w = .ok v w') (h : wpList P ops Q rest (a.put o.dst v) w') : wpList P ops Q (o :: rest) a w :=
  wpList_step fun _ hK => stepApp hw s x t ho v1 v2 v hs hx hrun (hK _ _ h)

end Go.Proofs.YtnkkjedckehoaaaDoor
namespace Go.Proofs.YtnkkjedckehoaaaDoor
open Go.RowKit

/-! ### A path is put at its place -/
def lessS (s p : ByteArray) : Bool := Op.bytesLess s.data.toList p.data.toList
def atS (out : List ByteArray) (p : ByteArray) : Nat := out.findIdx fun s => !lessS s p
def insP (out : List ByteArray) (p : ByteArray) : List ByteArray := if out[atS out p]? = some p then out else out.take (atS out p) ++ p :: out.drop (atS out p)
def SrtS (out : List ByteArray) : Prop := out.Pairwise fun a b => a.data.toList < b.data.toList
theorem atS_le (out : List ByteArray) (p : ByteArray) : atS out p ≤ out.length := List.findIdx_le_length
theorem atS_low {out : List ByteArray} {p : ByteArray} {k : Nat} (hk : k < out.length) (h : k < atS out p) : lessS out[k] p = true := by
  have := List.not_of_lt_findIdx h
  simpa using this
theorem atS_at {out : List ByteArray} {p : ByteArray} (h : atS out p < out.length) : lessS out[atS out p] p = false := by
  have h1 : (!lessS out[atS out p] p) = true := List.findIdx_getElem (p := fun s => !lessS s p) (w := h)
  simpa using h1
theorem atS_is {out : List ByteArray} {p : ByteArray} {k : Nat} (hk : k ≤ out.length) (h1 : ∀ i (hi : i < out.length), i < k → lessS out[i] p = true) (h2 : ∀ hi : k < out.length, lessS out[k] p = false) : atS out p = k := by
  by_cases hlt : k < out.length
  · exact (List.findIdx_eq hlt).2 ⟨by simp [h2 hlt], fun i hi => by simp [h1 i (by omega) hi]⟩
  · obtain rfl : k = out.length := by omega
    refine List.findIdx_eq_length.2 fun x hx => ?_
    obtain ⟨i, hi, rfl⟩ := List.mem_iff_getElem.1 hx
    simp [h1 i hi hi]
theorem ins_mem {out : List ByteArray} {p x : ByteArray} : x ∈ insP out p ↔ x = p ∨ x ∈ out := by
  unfold insP
  split
  · rename_i h
    have := List.mem_of_getElem? h
    constructor
    · exact .inr
    · rintro (rfl | h)
      · exact this
      · exact h
  · have e : ∀ y, y ∈ out ↔ y ∈ out.take (atS out p) ∨ y ∈ out.drop (atS out p) := fun y => by
      conv => lhs; rw [← List.take_append_drop (atS out p) out]
      rw [List.mem_append]
    rw [List.mem_append, List.mem_cons, e x]
    constructor
    · rintro (h | h | h)
      · exact .inr (.inl h)
      · exact .inl h
      · exact .inr (.inr h)
    · rintro (h | h | h)
      · exact .inr (.inl h)
      · exact .inl h
      · exact .inr (.inr h)
theorem ins_srt {out : List ByteArray} {p : ByteArray} (h : SrtS out) : SrtS (insP out p) := by
  unfold insP
  split
  · exact h
  · rename_i hne
    have hh := List.pairwise_iff_getElem.1 h
    have low : ∀ a ∈ out.take (atS out p), a.data.toList < p.data.toList := by
      intro a ha
      obtain ⟨i, hi, rfl⟩ := List.mem_iff_getElem.1 ha
      rw [List.length_take] at hi
      rw [List.getElem_take]
      exact (less_iff _ _).1 (atS_low (by omega) (by omega))
    have high : ∀ b ∈ out.drop (atS out p), p.data.toList < b.data.toList := by
      intro b hb
      obtain ⟨i, hi, rfl⟩ := List.mem_iff_getElem.1 hb
      rw [List.length_drop] at hi
      rw [List.getElem_drop]
      have h0 : atS out p < out.length := by omega
      have h1 : p.data.toList < out[atS out p].data.toList := by
        rcases lt_tri p.data.toList out[atS out p].data.toList with x | x | x
        · exact x
        · exact absurd ((List.getElem?_eq_getElem h0).trans (congrArg some (data_inj x).symm)) hne
        · have := atS_at h0
          rw [lessS, (less_iff _ _).2 x] at this
          cases this
      by_cases hi0 : i = 0
      · subst hi0; exact h1
      · exact List.lt_trans h1 (hh _ _ h0 (by omega) (by omega))
    refine List.pairwise_append.2 ⟨h.sublist (List.take_sublist _ _), List.pairwise_cons.2 ⟨high, h.sublist (List.drop_sublist _ _)⟩, ?_⟩
    intro a ha b hb
    rcases List.mem_cons.1 hb with rfl | hb
    · exact low a ha
    · exact List.lt_trans (low a ha) (high b hb)
def pthL (l : List Ent) (t : List Fil) : List ByteArray := l.map (·.path) ++ t.map (·.1)
def allL (l : List Ent) (t : List Fil) : List ByteArray := (pthL l t).foldl insP []
theorem fold_ins (xs : List ByteArray) : ∀ (out : List ByteArray), SrtS out → SrtS (xs.foldl insP out) ∧ ∀ x, x ∈ xs.foldl insP out ↔ x ∈ xs ∨ x ∈ out := by
  induction xs with
  | nil => exact fun out h => ⟨h, fun x => by simp⟩
  | cons y xs ih =>
    intro out h
    obtain ⟨h1, h2⟩ := ih (insP out y) (ins_srt h)
    refine ⟨h1, fun x => ?_⟩
    rw [List.foldl_cons, h2, ins_mem, List.mem_cons]
    constructor
    · rintro (h | h | h)
      · exact .inl (.inr h)
      · exact .inl (.inl h)
      · exact .inr h
    · rintro ((h | h) | h)
      · exact .inr (.inl h)
      · exact .inl h
      · exact .inr (.inr h)
theorem srtS_one : ∀ {a b : List ByteArray}, SrtS a → SrtS b → (∀ x, x ∈ a ↔ x ∈ b) → a = b := by
  intro a b ha hb h
  have e := Srt.unique (a := a.map fun s => (s, noS)) (b := b.map fun s => (s, noS)) (List.pairwise_map.2 ha) (List.pairwise_map.2 hb) (fun f => by
    simp only [List.mem_map]
    constructor
    · rintro ⟨x, hx, rfl⟩; exact ⟨x, (h x).1 hx, rfl⟩
    · rintro ⟨x, hx, rfl⟩; exact ⟨x, (h x).2 hx, rfl⟩)
  have := congrArg (List.map Prod.fst) e
  simpa [List.map_map, Function.comp_def] using this
theorem all_both {l : List Ent} {t : List Fil} (hl : SrtE l) (ht : Srt t) : allL l t = (bothL l t).map (·.2.path) := by
  obtain ⟨h1, h2⟩ := fold_ins (pthL l t) [] List.Pairwise.nil
  refine srtS_one h1 (List.pairwise_map.2 (both_srt l t hl ht)) fun x => ?_
  rw [show allL l t = (pthL l t).foldl insP [] from rfl] at *
  rw [h2, both_path, pthL, List.mem_append]
  simp
theorem ins_len (out : List ByteArray) (p : ByteArray) : (insP out p).length ≤ out.length + 1 := by
  unfold insP
  split
  · omega
  · rw [List.length_append, List.length_take, List.length_cons, List.length_drop]; have := atS_le out p; omega
theorem fold_len (xs : List ByteArray) : ∀ (out : List ByteArray), (xs.foldl insP out).length ≤ out.length + xs.length := by
  induction xs with
  | nil => simp
  | cons y xs ih => intro out; rw [List.foldl_cons]; have := ih (insP out y); have := ins_len out y; simp; omega

/-! ### Slices of strings, cut -/
theorem cut_pre (B : Option Addr) (n c k : Nat) (hk : k ≤ c) (w : World) : (Instr.slice 27 (.slice B n c) none (some (.int .i64 (k : Int))) none).run Tryd.prog w = .ok (.slice (if c = 0 then B else B.map (·.add 0)) k c) w := by
  simp [Instr.slice, Instr.sliceBounds, Instr.sliceBound, run_underlying Tryd.underlying27, Tryd.sizeOf9, asIntOf]
  intro h
  omega
theorem cut_post (B : Option Addr) (n c k : Nat) (hk : k ≤ n) (w : World) : (Instr.slice 27 (.slice B n c) (some (.int .i64 (k : Int))) none none).run Tryd.prog w = .ok (.slice (if c = k then B else B.map (·.add k)) (n - k) (c - k)) w := by
  simp [Instr.slice, Instr.sliceBounds, Instr.sliceBound, run_underlying Tryd.underlying27, Tryd.sizeOf9, asIntOf]
  intro h
  omega
theorem cuts {w : World} {B : Option Addr} {c k : Nat} {out : List ByteArray} (h : Rd w B (strV out)) (hc : out.length ≤ c) (hk : k ≤ out.length) :
    ∃ B1 B2, (∀ w, (Instr.slice 27 (.slice B out.length c) none (some (.int .i64 (k : Int))) none).run Tryd.prog w = .ok (.slice B1 k c) w) ∧ (∀ w, (Instr.slice 27 (.slice B out.length c) (some (.int .i64 (k : Int))) none none).run Tryd.prog w = .ok (.slice B2 (out.length - k) (c - k)) w) ∧
      Rd w B1 (strV (out.take k)) ∧ Rd w B2 (strV (out.drop k)) := by
  have hl := strV_length out
  refine ⟨_, _, cut_pre B out.length c k (by omega), cut_post B out.length c k hk, ?_, ?_⟩
  · have := h.cut (k := 0) (m := k) (cap := c) (by omega) (by omega)
    rw [List.drop_zero] at this
    rw [show strV (out.take k) = (strV out).take k by simp [strV, List.map_take]]
    exact this
  · have := h.cut (k := k) (m := out.length - k) (cap := c) (by omega) (by omega)
    rw [List.take_of_length_le (by rw [List.length_drop]; omega)] at this
    rw [show strV (out.drop k) = (strV out).drop k by simp [strV, List.map_drop]]
    exact this
/-- append of strings onto a row of the call's own. -/
theorem app_strs {W : World} {n₀ : Nat} {A : Option Addr} {k c : Nat} {xs : List ByteArray} (hrow : W.ownsRow n₀ 9 1 (.slice A k c) k (strV xs)) (hn : n₀ ≤ W.heap.size) {B : Option Addr} {m d : Nat} {ys : List ByteArray} (hl : ys.length = m) (hr : Rd W B (strV ys)) {t : Nat} (ht : k + m = t) (hk : t ≤ 1000000) :
    ∃ A' c' w1, Hid ((Builtin.append_ #[27, 27] 27 #[.slice A k c, .slice B m d]).run Tryd.prog W = .ok (.slice A' t c') w1) ∧ w1.ownsRow n₀ 9 1 (.slice A' t c') t (strV (xs ++ ys)) ∧ W.grownBy w1 (Value.slice A k c).ownBlock ∧ Below n₀ W w1 := by
  subst ht
  obtain ⟨A', c', w1, h1, h2, h3⟩ := run_app (P := Tryd.prog) W n₀ 27 27 9 (.string ⟨#[]⟩) 16 Tryd.underlying27 Tryd.infoS rfl A k c (strV xs) hrow B m d (strV ys) (by rw [strV_length]; exact hl) hr (strV_one _) (by omega) hn (by unfold maxLen; omega)
  exact ⟨A', c', w1, h1, by rw [strV_append]; exact h2, h3, (Below.refl n₀ W).grown h3 hn fun j ej => (hrow.lt j ej).1⟩
theorem own_none (w : World) (base : Nat) (h : base ≤ w.heap.size) : (w.alloc (.cells #[] 9)).ownsRow base 9 1 (.slice (some ⟨w.heap.size, 0, none⟩) 0 0) 0 (strV []) := World.ownsRow_made w #[] 0 h (by unfold maxLen; omega) (by simp)
theorem rd_one (w : World) (p : ByteArray) : Rd (w.alloc (.cells #[.string p] 9)) (some ⟨w.heap.size, 0, none⟩) (strV [p]) := (Blk.new w [.string p] 9).rd
theorem rd_apart {w w' : World} {g : Nat} {row : Option Nat} {ys : List Value} (h : Rd w (some ⟨g, 0, none⟩) ys) (hg : w.grownBy w' row) (hlt : g < w.heap.size) (hne : some g ≠ row) : Rd w' (some ⟨g, 0, none⟩) ys := by
  rcases h with h | ⟨ad, e, hc⟩
  · exact .inl h
  · injection e with e
    subst e
    refine .inr ⟨_, rfl, fun j u hu => ?_⟩
    rw [← hc j u hu]
    exact World.cell?_of_block (by rw [add_block]; exact hg.block g hlt hne)

end Go.Proofs.YtnkkjedckehoaaaDoor
