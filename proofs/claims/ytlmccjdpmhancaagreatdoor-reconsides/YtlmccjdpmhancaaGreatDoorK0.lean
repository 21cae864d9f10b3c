/- The texts Mem, Args, Qa, Blk, Shelf, Fr, Qb, Qc, Qd, Qs, in one. -/
import Derived.Test.YtlmccjdpmhancaaGreatDoorRows
import Derived.WalkKit
import Derived.WalkSpells
import Derived.WalkLawsBesides
import Derived.Lib.AppendStr
import Derived.Laws.IdiomStrings
import Derived.Laws.BytesArg
import Derived.ProofKit
import Derived.OpenShut
import Derived.ShutString
import Derived.ChangeOld
import Derived.SizedLaws
import Derived.SliceStrings
import Derived.Lib.SplitLaws
import Derived.Lib.IndexBytes
import Derived.Lib.Join
import Derived.Shelf.Strings.OnBuilder
import Derived.Shelf.LaysM
import Derived.Shelf.Strconv.Clone
import Derived.Shelf.Strings.Prefix
import Derived.Shelf.Strings.Split
import Derived.Test.YtlmccjdpmhancaaGreatDoorProg
import Derived.Maps.OwnSet
import Derived.Maps.AppendAt
import Derived.Handy
import Derived.Deep.QuietTactic
import Derived.BigQuiet
import Derived.Deep.RegionHeld3
namespace Go.Proofs.YtlmccjdpmhancaaGreatDoor
open Go.RowKit

theorem hid {p : Prop} (h : p) : Hid p := h

/-- The bytes as cells. -/
def by8 (l : List UInt8) : List Value := l.map fun b => .int .u8 (b.toNat : Int)
theorem by8_length (l : List UInt8) : (by8 l).length = l.length := by simp [by8]
theorem by8_append (a b : List UInt8) : by8 (a ++ b) = by8 a ++ by8 b := by simp [by8]
theorem by8_one (l : List UInt8) : ∀ u ∈ by8 l, u.oneCell' = true := by
  intro u hu
  obtain ⟨_, _, rfl⟩ := List.mem_map.1 hu
  rfl
theorem by8_at (l : List UInt8) (j : Nat) (h : j < l.length) : (by8 l)[j]? = some (.int .u8 (l[j].toNat : Int)) := by simp [by8, h]

/-- The strings as cells. -/
def strV (l : List ByteArray) : List Value := l.map Value.string
theorem strV_length (l : List ByteArray) : (strV l).length = l.length := by simp [strV]
theorem strV_one (l : List ByteArray) : ∀ u ∈ strV l, u.oneCell' = true := by
  intro u hu
  obtain ⟨_, _, rfl⟩ := List.mem_map.1 hu
  rfl
theorem strV_append (a b : List ByteArray) : strV (a ++ b) = strV a ++ strV b := by simp [strV]

theorem add_block (a : Addr) (n : Nat) : (a.add n).block = a.block := by unfold Addr.add; split <;> rfl
theorem add_assoc' (a : Addr) (i j : Nat) : (a.add i).add j = a.add (i + j) := by
  unfold Addr.add
  by_cases hi : i = 0 <;> by_cases hj : j = 0 <;> simp [hi, hj, Nat.add_assoc]

/-- The slice at A holds the cells xs. -/
def Rd (w : World) (A : Option Addr) (xs : List Value) : Prop :=
  xs = [] ∨ ∃ ad, A = some ad ∧ ∀ j u, xs[j]? = some u → w.cell? (ad.add j) = some u

section
variable {w w' : World} {A : Option Addr} {xs : List Value}
theorem Rd.nil : Rd w A [] := .inl rfl
theorem Rd.at_ (h : Rd w A xs) {k : Nat} (hk : k < xs.length) : ∃ b off, A = some ⟨b, off, none⟩ ∧ w.cell? ⟨b, off + k, none⟩ = some xs[k] ∧ b < w.heap.size := by
  rcases h with rfl | ⟨ad, rfl, hc⟩
  · simp at hk
  · have h0 := hc k xs[k] (List.getElem?_eq_getElem hk)
    have hb := World.block_lt_of_cell? w _ h0
    have hz := hc 0 _ (List.getElem?_eq_getElem (show 0 < xs.length by omega))
    have hs := World.cell?_spot hz
    obtain ⟨b, off, s⟩ := ad
    have : s = none := by simpa [Addr.add] using hs
    subst this
    rw [Addr.add_lit] at h0 hb
    exact ⟨b, off, rfl, h0, hb⟩
theorem Rd.keep (h : Rd w A xs) (hk : ∀ p : Addr, ∀ u, w.cell? p = some u → u ∈ xs → w'.cell? p = some u) : Rd w' A xs := by
  rcases h with rfl | ⟨ad, rfl, hc⟩
  · exact .inl rfl
  · exact .inr ⟨ad, rfl, fun j u hu => hk _ _ (hc j u hu) (List.mem_of_getElem? hu)⟩
theorem Rd.below (h : Rd w A xs) (hb : Below w.heap.size w w') : Rd w' A xs :=
  h.keep fun p _ hu _ => (hb.cell (World.block_lt_of_cell? w p hu)).trans hu
theorem Rd.alloc (h : Rd w A xs) (o : Obj) : Rd (w.alloc o) A xs := h.below ((Below.refl _ _).alloc (Nat.le_refl _) o)
theorem Rd.drew (h : Rd w A xs) : Rd w.drew A xs := h
/-- One block may have turned, and holds no cell of these. -/
theorem Rd.grown {g : Nat} (h : Rd w A xs) (hg : w.grownBy w' (some g)) (hne : ∀ o u, w.cell? ⟨g, o, none⟩ = some u → u ∉ xs) : Rd w' A xs := by
  refine h.keep fun p u hu hx => ?_
  refine (World.cell?_of_block (hg.block p.block (World.block_lt_of_cell? w p hu) ?_)).trans hu
  intro e
  have hs := World.cell?_spot hu
  obtain ⟨b, o, s⟩ := p
  simp at hs e
  subst hs; subst e
  exact hne o u hu hx
theorem Rd.grownNone (h : Rd w A xs) (hg : w.grownBy w' none) : Rd w' A xs :=
  h.keep fun p _ hu _ => (World.cell?_of_block (hg.block p.block (World.block_lt_of_cell? w p hu) (by simp))).trans hu
theorem Rd.of_own {base : Nat} {e : TypeId} {n c : Nat} (h : w.ownsRow base e 1 (.slice A n c) n xs) : Rd w A xs := by
  rcases h.2 with ⟨hv, hn⟩ | ⟨g, cap, cur, hv, _⟩
  · have : xs = [] := List.eq_nil_of_length_eq_zero (by have := h.1; omega)
    exact .inl this
  · injection hv with h1 h2 h3
    subst h1
    exact .inr ⟨_, rfl, h.cells (g := g) rfl⟩
/-- A cut of it. -/
theorem Rd.cut (h : Rd w A xs) {k m cap : Nat} (hk : k + m ≤ xs.length) (hc : xs.length ≤ cap) :
    Rd w (if cap = k then A else A.map (·.add k)) ((xs.drop k).take m) := by
  by_cases hm : m = 0
  · subst hm; simp; exact .inl rfl
  · rcases h with rfl | ⟨ad, rfl, hcell⟩
    · simp at hk; omega
    · rw [if_neg (by omega)]
      refine .inr ⟨ad.add k, rfl, fun j u hu => ?_⟩
      rw [add_assoc']
      refine hcell _ u ?_
      rw [List.getElem?_take] at hu
      split at hu
      · rw [← hu, List.getElem?_drop]
      · cases hu
end

/-- An owned slice shows what it is. -/
theorem own_form {w : World} {base : Nat} {e : TypeId} {v : Value} {n : Nat} {xs : List Value} (h : w.ownsRow base e 1 v n xs) :
    xs.length = n ∧ ∃ A c, v = .slice A n c ∧ n ≤ c ∧ c ≤ maxLen := by
  refine ⟨by have := h.1; omega, ?_⟩
  rcases h.2 with ⟨rfl, rfl⟩ | ⟨g, cap, cur, rfl, _, _, h1, h2, _⟩
  · exact ⟨none, 0, rfl, Nat.le_refl _, by unfold maxLen; omega⟩
  · exact ⟨_, cap, rfl, h1, h2⟩
theorem own_base {w : World} {base base' : Nat} {e : TypeId} {v : Value} {n : Nat} {xs : List Value} (h : w.ownsRow base e 1 v n xs) (hb : base' ≤ base) : w.ownsRow base' e 1 v n xs := by
  refine ⟨h.1, ?_⟩
  rcases h.2 with h2 | ⟨g, cap, cur, h2, h3, h4⟩
  · exact .inl h2
  · exact .inr ⟨g, cap, cur, h2, by omega, h4⟩
theorem grown_trans {a b c : World} {row : Option Nat} (h : a.grownBy b row) (k : b.grownBy c row) : a.grownBy c row :=
  ⟨k.os.trans h.os, k.tape.trans h.tape, k.output.trans h.output, Nat.le_trans h.size k.size, fun i hi hne => (k.block i (Nat.lt_of_lt_of_le hi h.size) hne).trans (h.block i hi hne)⟩
theorem grown_alloc {a b : World} {row : Option Nat} (h : a.grownBy b row) (o : Obj) : a.grownBy (b.alloc o) row := grown_trans h (World.grownBy_alloc b o row)
theorem grown_below {a b : World} {row : Option Nat} (h : Below a.heap.size a b) : a.grownBy b row := ⟨h.os, h.tape, h.output, h.size, fun i hi _ => h.block i hi⟩
theorem below_grown {B : Nat} {a b : World} {row : Option Nat} (hB : B ≤ a.heap.size) (hr : ∀ k, row = some k → B ≤ k) (h : a.grownBy b row) : Below B a b := (Below.refl B a).grown h hB hr

theorem run_app_nil {P : Program} (w : World) (base : Nat) (t ty e : TypeId) (i : TypeInfo) (ht : P.underlying t = some (.slice e)) (hi : P.info? e = some i)
    (v : Value) (n : Nat) (xs : List Value) (hown : w.ownsRow base e 1 v n xs) (c : Nat) : (Builtin.append_ #[t, t] ty #[v, .slice none 0 c]).run P w = .ok v w := by
  rcases hown.2 with ⟨rfl, rfl⟩ | ⟨g, cap, cur, rfl, _, _, hnc, _⟩
  · simp [Builtin.append_, run_underlying ht, sizeOf, typeInfo, hi, Builtin.lenOf, Builtin.firstCells]
  · simp [Builtin.append_, run_underlying ht, sizeOf, typeInfo, hi, Builtin.lenOf, Builtin.firstCells, hnc, storeCells]

/-- append(v, x...) for the walk: v the call's own, x whatever reads as news; elements of one cell. -/
theorem wpApp {P : Program} (w : World) {ops : Array Oper} {rest : List Oper} {o : Oper} {a : Act} {Q : Exit → Act → World → Prop} (hgd : o.guard = none) (s x : Operand) (t : TypeId)
    (ho : o.op = .call { callee := .builtin .append, args := #[s, x], argTypes := #[t, t] })
    (base : Nat) (e : TypeId) (z : Value) (bytes : Nat) (ht : P.underlying t = some (.slice e)) (hinf : (P.info? e).map (fun i => (i.zero, i.size, i.bytes)) = some (some z, 1, bytes)) (hz : z.cells.size = 1)
    (A : Option Addr) (n c : Nat) (xs : List Value) (hs : a.eval s = .slice A n c) (hown : w.ownsRow base e 1 (.slice A n c) n xs)
    (B : Option Addr) (m d : Nat) (news : List Value) (hx : a.eval x = .slice B m d) (hl : news.length = m) (hr : Rd w B news) (h1 : ∀ u ∈ news, u.oneCell' = true)
    (hbytes : (n + m) * bytes ≤ 140737488355328) (hbase : base ≤ w.heap.size) (h63 : n + m ≤ 9223372036854775807)
    (h : ∀ A' c' w', w'.ownsRow base e 1 (.slice A' (n + m) c') (n + m) (xs ++ news) → w.grownBy w' (Value.slice A n c).ownBlock → wpList P ops Q rest (a.put o.dst (.slice A' (n + m) c')) w') : wpList P ops Q (o :: rest) a w := by
  obtain ⟨i, hi, hz0, hz1, hz2⟩ := info_parts hinf
  have fin : ∀ v' w', w'.ownsRow base e 1 v' (n + m) (xs ++ news) → w.grownBy w' (Value.slice A n c).ownBlock → wpList P ops Q rest (a.put o.dst v') w' := by
    intro v' w' h2 h3
    obtain ⟨_, A', c', rfl, _⟩ := own_form h2
    exact h A' c' w' h2 h3
  rcases hr with rfl | ⟨ad, rfl, hc⟩
  · have hm : m = 0 := by simpa using hl.symm
    subst hm
    cases B with
    | none =>
      refine wpList_plain hgd fun K hK => ?_
      have hrun := run_app_nil (P := P) w base t o.type e i ht hi _ n xs hown d
      unfold Oper.wp
      simp [execOp, ho, resolve, invoke, builtin, hs, hx, hrun, Result.andThen]
      exact hK _ _ (fin _ _ (by simpa using hown) (World.grownBy.refl _ _))
    | some ad => exact wpList_append_own w hgd s x t ho base e i z 1 bytes ht hi hz0 hz1 hz2 hz (by decide) _ n xs hs hown ad 0 d [] hx (by simp) (by simp) (by simp) h63 hbytes hbase (fun v' w' h2 h3 _ => fin v' w' h2 h3)
  · exact wpList_append_own w hgd s x t ho base e i z 1 bytes ht hi hz0 hz1 hz2 hz (by decide) _ n xs hs hown ad m d news hx (by omega) hc h1 h63 hbytes hbase (fun v' w' h2 h3 _ => fin v' w' h2 h3)

/-- append(v, s...) of a string. -/
theorem wpAppS {P : Program} (w : World) {ops : Array Oper} {rest : List Oper} {o : Oper} {a : Act} {Q : Exit → Act → World → Prop} (hgd : o.guard = none) (sl x : Operand) (t u : TypeId)
    (ho : o.op = .call { callee := .builtin .append, args := #[sl, x], argTypes := #[t, u] })
    (base : Nat) (e : TypeId) (ht : P.underlying t = some (.slice e)) (hu : P.underlying u = some .string) (hinf : (P.info? e).map (fun i => (i.zero, i.size, i.bytes)) = some (some (.int .u8 0), 1, 1))
    (A : Option Addr) (n c : Nat) (xs : List Value) (hs : a.eval sl = .slice A n c) (hown : w.ownsRow base e 1 (.slice A n c) n xs) (s : ByteArray) (hx : a.eval x = .string s)
    (hbytes : n + s.size ≤ 140737488355328) (hbase : base ≤ w.heap.size)
    (h : ∀ A' c' w', w'.ownsRow base e 1 (.slice A' (n + s.size) c') (n + s.size) (xs ++ by8 s.data.toList) → w.grownBy w' (Value.slice A n c).ownBlock → wpList P ops Q rest (a.put o.dst (.slice A' (n + s.size) c')) w') : wpList P ops Q (o :: rest) a w := by
  obtain ⟨i, hi, hz0, hz1, hz2⟩ := info_parts hinf
  refine Lib.wpList_append_own_string w hgd sl x t u ho base e i ht hu hi hz0 hz1 hz2 _ n xs hs hown s hx (by unfold maxLen; omega) hbytes hbase ?_
  intro v' w' h2 h3 _
  obtain ⟨_, A', c', rfl, _⟩ := own_form h2
  exact h A' c' w' h2 h3

/-- string(b). -/
theorem conv_rd {P : Program} (w : World) (src dst e : TypeId) (hs : P.underlying src = some (.slice e)) (he : P.underlying e = some (.int .u8)) (hd : P.underlying dst = some .string)
    (A : Option Addr) (n c : Nat) (l : List UInt8) (hl : l.length = n) (h : Rd w A (by8 l)) : (convert src dst (.slice A n c)).run P w = .ok (.string ⟨l.toArray⟩) w := by
  subst hl
  rcases h with h | ⟨ad, rfl, hc⟩
  · have hn : l = [] := by simpa [by8] using h
    subst hn
    cases A with
    | none => exact run_convert_bytes_nil w src e hs he 0 c dst hd
    | some ad => exact run_convert_bytes_back w src dst e ad c [] hs he hd (by intro j hj; simp at hj)
  · exact run_convert_bytes_back w src dst e ad c l hs he hd (fun j hj => hc j _ (by8_at l j hj))

/-- The cells of a block that was just made. -/
theorem new_cells (w : World) (t : TypeId) (xs : List Value) : ∀ j u, xs[j]? = some u → (w.alloc (.cells xs.toArray t)).cell? ((⟨w.heap.size, 0, none⟩ : Addr).add j) = some u := by
  intro j u hu
  rw [Addr.add_lit, Nat.zero_add, cell_of_row _ w.heap.size j xs.toArray t (0, 0) (heap_alloc_new w _)]
  simpa using hu

theorem Tryz.info8 : (Tryz.prog.info? 5).map (fun i => (i.zero, i.size, i.bytes)) = some (some (.int .u8 0), 1, 1) := by kernel_rfl
theorem Tryz.infoS : (Tryz.prog.info? 9).map (fun i => (i.zero, i.size, i.bytes)) = some (some (.string ⟨#[]⟩), 1, 16) := by kernel_rfl
theorem own_app_block {w : World} {base : Nat} {e : TypeId} {A : Option Addr} {n c : Nat} {xs : List Value} (h : w.ownsRow base e 1 (.slice A n c) n xs) : ∀ k, (Value.slice A n c).ownBlock = some k → base ≤ k := fun k hk => (h.lt k hk).1
theorem ret_bool {a b : Bool} (h : a = b) : Ending.returned (.bool a) = .returned (.bool b) := by rw [h]
theorem ret_int {k : IntKind} {a b : Int} (h : a = b) : Ending.returned (.int k a) = .returned (.int k b) := by rw [h]
theorem ret_str {a b : ByteArray} (h : a = b) : Ending.returned (.string a) = .returned (.string b) := by rw [h]
theorem below2 {a b c : World} (h : Below a.heap.size a b) (k : Below b.heap.size b c) : Below a.heap.size a c := h.trans (k.mono h.size)
theorem below_new {w w' : World} (o : Obj) (h : Below (w.alloc o).heap.size (w.alloc o) w') : Below w.heap.size w w' := below2 ((Below.refl _ _).alloc (Nat.le_refl _) o) h

end Go.Proofs.YtlmccjdpmhancaaGreatDoor
namespace Go.Proofs.YtlmccjdpmhancaaGreatDoor
open Go.ChangeShapes Go.WideShapes Go.ChangeAt Go.RowKit

theorem ownKnob_none : ownKnob Tryz.prog.godebug = none := by kernel_rfl
theorem laidOut_ok : laidOutB Tryz.prog = true := by kernel_rfl

theorem trod_blocks {H : Type} {enc : TypeId × Value → H} {P : Program} {W : World} {sp : Nat → Bool} {hd : Bool} {t : TypeId} {v : Value} {d : DataW H} {p : List MemPlace} (h : DataW.Trod enc P W 0 sp hd t v d p) : ∀ x ∈ p, x.block < W.heap.size := by
  obtain ⟨m, hm⟩ := h
  exact DataW.trod_lt m _ _ _ hm

section
variable {H : Type} {enc : TypeId × Value → H} {P : Program} {W : World}

/-- A slice of integers of one kind. -/
theorem arg_ints {k : IntKind} {t e : TypeId} {base : Nat} {v : Value} {d : DataW H} {p : List MemPlace} (ht : P.underlying t = some (.slice e)) (he : P.underlying e = some (.int k)) (hc : P.cellsOf e = 1) (hv : Value.okWide P W .any base t v)
    (h : DataW.Trod enc P W 0 (fun _ => true) true t v d p) (hsz : ∀ elems spare, d = .slice elems spare → (elems.length + spare.length) * P.bytesOf e ≤ reachBytes) :
    ∃ (A : Option Addr) (c : Nat) (zs : List Int), v = .slice A zs.length c ∧ Rd W A (zs.map (Value.int k)) ∧ zs.length ≤ c ∧ c * P.bytesOf e ≤ reachBytes ∧ c ≤ maxLen ∧ ∀ n ∈ zs, (Lit.int k n).wf = true := by
  obtain ⟨a, len, cap, rfl⟩ := okWide_slice ht hv
  obtain ⟨fuel, hf⟩ := h
  rcases open_ints ht he hc hf with ⟨hcs, _⟩ | ⟨x, l, c, zs, hcs, _, hl, hm, hz, hx, hcell, hwz⟩
  · simp [Value.cells] at hcs
    obtain ⟨rfl, rfl, rfl⟩ := hcs
    exact ⟨none, 0, [], rfl, .inl rfl, Nat.le_refl _, by simp, by unfold maxLen; omega, by simp⟩
  · simp [Value.cells] at hcs
    obtain ⟨rfl, rfl, rfl⟩ := hcs
    have hz' : zs.length = cap := by simpa using hz
    have hsz' := hsz _ _ (congrArg Prod.fst hx)
    simp only [lits, List.length_map, List.length_take, List.length_drop] at hsz'
    rw [show min len zs.length + (zs.length - len) = cap by omega] at hsz'
    refine ⟨some x, cap, zs.take len, by simp; omega, .inr ⟨x, rfl, ?_⟩, by simp; omega, hsz', hm, fun n hn => hwz n (List.mem_of_mem_take hn)⟩
    intro j u hu
    have hj : j < (zs.take len).length := by have := (List.getElem?_eq_some_iff.1 hu).1; simpa using this
    rw [List.length_take] at hj
    rw [hcell j (by omega)]
    simp [show j < len by omega, show j < zs.length by omega] at hu
    simp [show j < zs.length by omega, hu]

theorem arg_bytes {t e : TypeId} {base : Nat} {v : Value} {d : DataW H} {p : List MemPlace} (ht : P.underlying t = some (.slice e)) (he : P.underlying e = some (.int .u8)) (hc : P.cellsOf e = 1) (hby : P.bytesOf e = 1) (hv : Value.okWide P W .any base t v)
    (h : DataW.Trod enc P W 0 (fun _ => true) true t v d p) (hsz : ∀ elems spare, d = .slice elems spare → (elems.length + spare.length) * P.bytesOf e ≤ reachBytes) :
    ∃ (A : Option Addr) (c : Nat) (l : List UInt8), v = .slice A l.length c ∧ Rd W A (by8 l) ∧ l.length ≤ c ∧ c ≤ 140737488351232 := by
  obtain ⟨A, c, zs, rfl, hr, h1, h2, _, h4⟩ := arg_ints ht he hc hv h hsz
  rw [hby] at h2
  have e1 : by8 (zs.map fun n => UInt8.ofNat n.toNat) = zs.map (Value.int .u8) := by
    rw [by8, List.map_map]
    refine List.map_congr_left fun n hn => ?_
    have := bounds_u8 (h4 n hn)
    simp
    omega
  refine ⟨A, c, zs.map fun n => UInt8.ofNat n.toNat, by simp, by rw [e1]; exact hr, by simpa using h1, ?_⟩
  simp only [reachBytes] at h2
  omega

theorem arg_strs {t e : TypeId} {base : Nat} {v : Value} {d : DataW H} {p : List MemPlace} (ht : P.underlying t = some (.slice e)) (he : P.underlying e = some .string) (hc : P.cellsOf e = 1) (hby : P.bytesOf e = 16) (hv : Value.okWide P W .any base t v)
    (h : DataW.Trod enc P W 0 (fun _ => true) true t v d p) (hsz : ∀ elems spare, d = .slice elems spare → (elems.length + spare.length) * P.bytesOf e ≤ reachBytes) :
    ∃ (A : Option Addr) (c : Nat) (ls : List ByteArray), v = .slice A ls.length c ∧ Rd W A (strV ls) ∧ ls.length ≤ c ∧ c * 16 ≤ 140737488351232 ∧ ∀ s ∈ ls, s.size ≤ maxLen := by
  obtain ⟨a, len, cap, rfl⟩ := okWide_slice ht hv
  obtain ⟨fuel, hf⟩ := h
  rcases open_strings ht he hc hf with ⟨hcs, _⟩ | ⟨x, l, c, zs, hcs, _, hl, hm, hz, hx, hcell, hwz⟩
  · simp [Value.cells] at hcs
    obtain ⟨rfl, rfl, rfl⟩ := hcs
    exact ⟨none, 0, [], rfl, .inl rfl, Nat.le_refl _, by omega, by simp⟩
  · simp [Value.cells] at hcs
    obtain ⟨rfl, rfl, rfl⟩ := hcs
    have hz' : zs.length = cap := by simpa using hz
    have hsz' := hsz _ _ (congrArg Prod.fst hx)
    simp only [strs, List.length_map, List.length_take, List.length_drop] at hsz'
    rw [show min len zs.length + (zs.length - len) = cap by omega, hby] at hsz'
    refine ⟨some x, cap, zs.take len, by simp; omega, .inr ⟨x, rfl, ?_⟩, by simp; omega, by simpa [reachBytes] using hsz', fun n hn => hwz n (List.mem_of_mem_take hn)⟩
    intro j u hu
    have hj : j < (zs.take len).length := by have := (List.getElem?_eq_some_iff.1 hu).1; simpa [strV] using this
    rw [List.length_take] at hj
    rw [hcell j (by omega)]
    simp [strV, show j < len by omega, show j < zs.length by omega] at hu
    simp [show j < zs.length by omega, hu]

theorem arg_int {k : IntKind} {t : TypeId} {base : Nat} {v : Value} {d : DataW H} {p : List MemPlace} (ht : P.underlying t = some (.int k)) (hv : Value.okWide P W .any base t v)
    (h : DataW.Trod enc P W 0 (fun _ => true) true t v d p) : ∃ a, v = .int k a ∧ (Lit.int k a).wf = true := by
  obtain ⟨a, rfl, rfl, rfl, w⟩ := open_int ht hv h
  exact ⟨a, rfl, w⟩
theorem arg_str {t : TypeId} {base : Nat} {v : Value} {d : DataW H} {p : List MemPlace} (ht : P.underlying t = some .string) (hv : Value.okWide P W .any base t v)
    (h : DataW.Trod enc P W 0 (fun _ => true) true t v d p) (hsz : ∀ bytes, d = .lit (.string bytes) → bytes.length ≤ reachBytes) : ∃ s : ByteArray, v = .string s ∧ s.size ≤ 140737488351232 := by
  obtain ⟨s, rfl, rfl, rfl, hs⟩ := Go.ChangeMaps.open_string ht hv h
  refine ⟨s, rfl, ?_⟩
  have h1 := hsz _ rfl
  rw [Array.length_toList] at h1
  exact h1
end
end Go.Proofs.YtlmccjdpmhancaaGreatDoor
namespace Go.Proofs.YtlmccjdpmhancaaGreatDoor
open Go.RowKit

/-- A string of these bytes. -/
def mkS (l : List UInt8) : ByteArray := ⟨l.toArray⟩
theorem mkS_data (l : List UInt8) : (mkS l).data.toList = l := rfl
theorem mkS_of (s : ByteArray) : mkS s.data.toList = s := by cases s; simp [mkS]
theorem mkS_inj {a b : List UInt8} (h : mkS a = mkS b) : a = b := by rw [← mkS_data a, h, mkS_data]
theorem mkS_map (ls : List ByteArray) : (ls.map (·.data.toList)).map mkS = ls := by
  rw [List.map_map]
  have : ∀ s ∈ ls, (mkS ∘ fun s : ByteArray => s.data.toList) s = s := fun s _ => mkS_of s
  rw [List.map_congr_left this, List.map_id']
theorem map_mkS (L : List (List UInt8)) : (L.map mkS).map (fun s : ByteArray => s.data.toList) = L := by
  rw [List.map_map]
  have : ∀ s ∈ L, ((fun s : ByteArray => s.data.toList) ∘ mkS) s = s := fun s _ => mkS_data s
  rw [List.map_congr_left this, List.map_id']

def okB (b : UInt8) : Bool := (decide (97 ≤ b.toNat) && decide (b.toNat ≤ 122)) || (decide (48 ≤ b.toNat) && decide (b.toNat ≤ 57)) || b.toNat == 46 || b.toNat == 45
def nameL (l : List UInt8) : Bool := decide (1 ≤ l.length ∧ l.length ≤ 12 ∧ l ≠ [46] ∧ l ≠ [46, 46]) && l.all okB
def fineL (ls : List (List UInt8)) : Bool := decide (1 ≤ ls.length ∧ ls.length ≤ 4) && ls.all nameL

/-- What stands between the strokes. -/
def pieces : List UInt8 → List (List UInt8)
  | [] => [[]]
  | b :: l => if b = 47 then [] :: pieces l else (b :: (pieces l).headD []) :: (pieces l).tail
def joinL (ls : List (List UInt8)) : List UInt8 := Lib.join ls [47]
def rightL (s : List UInt8) : Bool := fineL (pieces s)
def namesL (s : List UInt8) : List (List UInt8) := if rightL s then pieces s else []
def joinN (ls : List (List UInt8)) : List UInt8 := if fineL ls then joinL ls else []
def parentL (s : List UInt8) : List UInt8 := joinN (namesL s).dropLast
def underL (s d : List UInt8) : Bool := rightL s && rightL d && Lib.hasPrefix s (d ++ [47])
def clashL (a b : List UInt8) : Bool := underL a b || underL b a
/-- All are paths, each greater than the one ahead. -/
def srtAt (L : List (List UInt8)) (i : Nat) : Bool := rightL (L.getD i []) && (i == 0 || Op.bytesLess (L.getD (i - 1) []) (L.getD i []))
def sortedL (L : List (List UInt8)) : Bool := (List.range L.length).all (srtAt L)

theorem fine_nil : fineL [] = false := rfl
theorem joinN_nil : joinN [] = [] := rfl

theorem pieces_none : ∀ (p : List UInt8), 47 ∉ p → pieces p = [p]
  | [], _ => rfl
  | b :: p, h => by
    have hb : b ≠ 47 := fun e => h (by simp [e])
    have := pieces_none p (fun e => h (by simp [e]))
    rw [pieces, if_neg hb, this]
    rfl
theorem pieces_ne : ∀ (s : List UInt8), pieces s ≠ []
  | [] => by simp [pieces]
  | b :: p => by unfold pieces; split <;> simp
theorem pieces_app : ∀ (a r : List UInt8), pieces (a ++ 47 :: r) = pieces a ++ pieces r
  | [], r => by simp [pieces]
  | b :: a, r => by
    have ih := pieces_app a r
    have hne := pieces_ne a
    rw [List.cons_append, pieces, pieces, ih]
    split
    · rfl
    · cases h : pieces a with
      | nil => exact absurd h hne
      | cons x xs => rfl
theorem pieces_len : ∀ (s : List UInt8), (pieces s).length ≤ s.length + 1
  | [] => by simp [pieces]
  | b :: p => by
    have ih := pieces_len p
    have hne := pieces_ne p
    unfold pieces
    split
    · simp only [List.length_cons]; omega
    · simp only [List.length_cons, List.length_tail]; omega
theorem split_at (s : List UInt8) : 47 ∉ s ∨ ∃ p r, s = p ++ 47 :: r ∧ 47 ∉ p := by
  by_cases h : (47 : UInt8) ∈ s
  · obtain ⟨p, r, h1, h2⟩ := List.eq_append_cons_of_mem h
    exact .inr ⟨p, r, h1, h2⟩
  · exact .inl h
theorem idx_none : ∀ (s : List UInt8), 47 ∉ s → Lib.index s [47] = -1 := by
  intro s h
  rw [Lib.index_one]
  induction s with
  | nil => rfl
  | cons b l ih =>
    have hb : b ≠ 47 := fun e => h (by simp [e])
    have := ih (fun e => h (by simp [e]))
    simp [Lib.indexByte, hb, this]
theorem idx_some : ∀ (p r : List UInt8), 47 ∉ p → Lib.index (p ++ 47 :: r) [47] = (p.length : Int) := by
  intro p r h
  rw [Lib.index_one]
  induction p with
  | nil => simp [Lib.indexByte]
  | cons b l ih =>
    have hb : b ≠ 47 := fun e => h (by simp [e])
    have := ih (fun e => h (by simp [e]))
    have hne : ((l.length : Int) == -1) = false := by simp
    simp [Lib.indexByte, hb, this]
theorem splitK_pieces : ∀ (k : Nat) (s : List UInt8), (pieces s).length ≤ k + 1 → Lib.splitK [47] 0 k s = pieces s
  | 0, s, h => by
    rcases split_at s with h1 | ⟨p, r, rfl, hp⟩
    · rw [pieces_none s h1]; rfl
    · rw [pieces_app, pieces_none p hp, List.length_append] at h
      have := List.length_pos_iff.2 (pieces_ne r)
      simp only [List.length_cons, List.length_nil] at h
      omega
  | k + 1, s, h => by
    rcases split_at s with h1 | ⟨p, r, rfl, hp⟩
    · rw [pieces_none s h1, Lib.splitK, idx_none s h1]; rfl
    · rw [pieces_app, pieces_none p hp, List.length_append] at h
      simp only [List.length_cons, List.length_nil] at h
      have ih := splitK_pieces k r (by omega)
      have hne : ((p.length : Int) == -1) = false := by simp
      rw [Lib.splitK, idx_some p r hp, hne, pieces_app, pieces_none p hp]
      simp [ih]
theorem splitK_long : ∀ (k : Nat) (s : List UInt8), k + 1 < (pieces s).length → (Lib.splitK [47] 0 k s).length = k + 1
  | 0, s, h => rfl
  | k + 1, s, h => by
    rcases split_at s with h1 | ⟨p, r, rfl, hp⟩
    · rw [pieces_none s h1] at h; simp at h
    · rw [pieces_app, pieces_none p hp, List.length_append] at h
      simp only [List.length_cons, List.length_nil] at h
      have ih := splitK_long k r (by omega)
      have hne : ((p.length : Int) == -1) = false := by simp
      rw [Lib.splitK, idx_some p r hp, hne]
      simp [ih]
theorem fine_len {ls : List (List UInt8)} (h : fineL ls = true) : 1 ≤ ls.length ∧ ls.length ≤ 4 := by
  simp only [fineL, Bool.and_eq_true, decide_eq_true_eq] at h
  exact h.1
theorem fine_all {ls : List (List UInt8)} (h : fineL ls = true) : ∀ p ∈ ls, nameL p = true := by
  simp only [fineL, Bool.and_eq_true, List.all_eq_true] at h
  exact h.2
theorem fine_mk {ls : List (List UInt8)} (h1 : 1 ≤ ls.length) (h2 : ls.length ≤ 4) (h : ∀ p ∈ ls, nameL p = true) : fineL ls = true := by
  simp only [fineL, Bool.and_eq_true, decide_eq_true_eq, List.all_eq_true]
  exact ⟨⟨h1, h2⟩, h⟩
theorem fine_long {ls : List (List UInt8)} (h : 4 < ls.length) : fineL ls = false := by
  cases h1 : fineL ls with
  | false => rfl
  | true => have := fine_len h1; omega
/-- What the program cuts is a path's names just where s is a path. -/
theorem split_fine (s : List UInt8) : fineL (Lib.splitK [47] 0 (min 5 (s.length + 1) - 1) s) = rightL s := by
  have hl := pieces_len s
  by_cases h : (pieces s).length ≤ min 5 (s.length + 1) - 1 + 1
  · rw [splitK_pieces _ _ h, rightL]
  · have h2 := splitK_long (min 5 (s.length + 1) - 1) s (by omega)
    rw [fine_long (by omega), rightL, fine_long (by omega)]
theorem split_names (s : List UInt8) (h : rightL s = true) : Lib.splitK [47] 0 (min 5 (s.length + 1) - 1) s = pieces s := by
  have hl := pieces_len s
  have := fine_len h
  exact splitK_pieces _ _ (by omega)

/-! ### Joined -/
theorem joinL_one (p : List UInt8) : joinL [p] = p := Lib.join_one _ _
theorem joinL_cons (p q : List UInt8) (r : List (List UInt8)) : joinL (p :: q :: r) = p ++ 47 :: joinL (q :: r) := by
  simp [joinL, Lib.join_cons, Lib.joinTail]
theorem joinL_app : ∀ (a b : List (List UInt8)), a ≠ [] → b ≠ [] → joinL (a ++ b) = joinL a ++ 47 :: joinL b
  | [], _, h, _ => absurd rfl h
  | [p], b, _, hb => by
    cases b with
    | nil => exact absurd rfl hb
    | cons q r => rw [List.singleton_append, joinL_cons, joinL_one]
  | p :: q :: r, b, _, hb => by
    have ih := joinL_app (q :: r) b (by simp) hb
    rw [List.cons_append, List.cons_append, joinL_cons, ← List.cons_append, ih, joinL_cons]
    simp
theorem pieces_join : ∀ (ls : List (List UInt8)), ls ≠ [] → (∀ p ∈ ls, 47 ∉ p) → pieces (joinL ls) = ls
  | [], h, _ => absurd rfl h
  | [p], _, h => by rw [joinL_one, pieces_none p (h p (by simp))]
  | p :: q :: r, _, h => by
    have ih := pieces_join (q :: r) (by simp) (fun x hx => h x (List.mem_cons_of_mem _ hx))
    rw [joinL_cons, pieces_app, ih, pieces_none p (h p (by simp))]
    rfl
theorem join_pieces (s : List UInt8) : joinL (pieces s) = s := by
  generalize hn : s.length = n
  induction n using Nat.strongRecOn generalizing s with
  | ind n ih =>
    rcases split_at s with h1 | ⟨p, r, rfl, hp⟩
    · rw [pieces_none s h1, joinL_one]
    · have h := ih r.length (by simp at hn; omega) r rfl
      rw [pieces_app, pieces_none p hp, joinL_app _ _ (by simp) (pieces_ne r), h, joinL_one]
theorem pieces_free (s : List UInt8) : ∀ p ∈ pieces s, 47 ∉ p := by
  generalize hn : s.length = n
  induction n using Nat.strongRecOn generalizing s with
  | ind n ih =>
    rcases split_at s with h1 | ⟨p, r, rfl, hp⟩
    · rw [pieces_none s h1]
      intro q hq
      rw [List.mem_singleton.1 hq]
      exact h1
    · have h := ih r.length (by simp at hn; omega) r rfl
      rw [pieces_app, pieces_none p hp]
      intro q hq
      rcases List.mem_append.1 hq with hq | hq
      · rw [List.mem_singleton.1 hq]
        exact hp
      · exact h q hq
theorem name_free {p : List UInt8} (h : nameL p = true) : 47 ∉ p := by
  intro hm
  simp only [nameL, Bool.and_eq_true, List.all_eq_true] at h
  exact absurd (h.2 47 hm) (by decide)
theorem name_ne {p : List UInt8} (h : nameL p = true) : p ≠ [] := by
  intro hm
  subst hm
  exact absurd h (by decide)
theorem fine_ne {ls : List (List UInt8)} (h : fineL ls = true) : ls ≠ [] := by
  intro hm
  subst hm
  exact absurd h (by decide)
theorem fine_pieces {ls : List (List UInt8)} (h : fineL ls = true) : pieces (joinL ls) = ls :=
  pieces_join ls (fine_ne h) (fun p hp => name_free (fine_all h p hp))
theorem right_join {ls : List (List UInt8)} (h : fineL ls = true) : rightL (joinL ls) = true := by rw [rightL, fine_pieces h, h]
theorem joinL_ne : ∀ (ls : List (List UInt8)), ls ≠ [] → (∀ p ∈ ls, p ≠ []) → joinL ls ≠ []
  | [], h, _ => absurd rfl h
  | [p], _, h => by rw [joinL_one]; exact h p (by simp)
  | p :: q :: r, _, h => by rw [joinL_cons]; simp
theorem right_ne {s : List UInt8} (h : rightL s = true) : s ≠ [] := by
  rw [← join_pieces s]
  exact joinL_ne _ (pieces_ne s) (fun p hp => name_ne (fine_all h p hp))
theorem right_nil : rightL [] = false := rfl
theorem joinN_right (ls : List (List UInt8)) : rightL (joinN ls) = fineL ls := by
  unfold joinN
  split
  · rename_i h
    rw [right_join h, h]
  · rename_i h
    simp only [Bool.not_eq_true] at h
    rw [h, right_nil]
theorem names_right {s : List UInt8} (h : rightL s = true) : namesL s = pieces s := by rw [namesL, if_pos h]
theorem names_wrong {s : List UInt8} (h : rightL s = false) : namesL s = [] := by rw [namesL, if_neg (by simp [h])]
theorem names_len (s : List UInt8) : (namesL s).length ≤ 4 := by
  unfold namesL
  split
  · rename_i h
    exact (fine_len h).2
  · simp
theorem name_len {p : List UInt8} (h : nameL p = true) : p.length ≤ 12 := by
  simp only [nameL, Bool.and_eq_true, decide_eq_true_eq] at h
  exact h.1.2.1
theorem join_len : ∀ (ls : List (List UInt8)), (∀ p ∈ ls, nameL p = true) → (joinL ls).length ≤ 13 * ls.length
  | [], _ => by simp [joinL, Lib.join_nil]
  | [p], h => by
    have := name_len (h p (by simp))
    rw [joinL_one]
    simp only [List.length_cons, List.length_nil]
    omega
  | p :: q :: r, h => by
    have := name_len (h p (by simp))
    have ih := join_len (q :: r) (fun x hx => h x (List.mem_cons_of_mem _ hx))
    rw [joinL_cons]
    simp only [List.length_append, List.length_cons] at ih ⊢
    omega
theorem joinN_len (ls : List (List UInt8)) : (joinN ls).length ≤ 52 := by
  unfold joinN
  split
  · rename_i h
    have := join_len ls (fine_all h)
    have := fine_len h
    omega
  · simp
end Go.Proofs.YtlmccjdpmhancaaGreatDoor
namespace Go.Proofs.YtlmccjdpmhancaaGreatDoor
open Go.RowKit

/-! ### A block that is known whole -/
def Blk (w : World) (g : Nat) (cs : List Value) (t : TypeId) : Prop := w.heap[g]? = some (.cells cs.toArray t (0, 0))
theorem Blk.cell {w : World} {g : Nat} {cs : List Value} {t : TypeId} (h : Blk w g cs t) (i : Nat) : w.cell? ⟨g, i, none⟩ = cs[i]? := by
  rw [cell_of_row w g i cs.toArray t (0, 0) h]; simp
theorem Blk.frozen {w : World} {g : Nat} {cs : List Value} {t : TypeId} (h : Blk w g cs t) (i : Nat) : w.frozen? ⟨g, i, none⟩ = false := by
  unfold Blk at h
  simp [World.frozen?, h]
theorem Blk.lt {w : World} {g : Nat} {cs : List Value} {t : TypeId} (h : Blk w g cs t) : g < w.heap.size := (Array.getElem?_eq_some_iff.1 h).1
theorem Blk.set_ {w : World} {g : Nat} {cs : List Value} {t : TypeId} (h : Blk w g cs t) (i : Nat) (u : Value) : Blk (w.setCell ⟨g, i, none⟩ u) g (cs.set i u) t := by
  unfold Blk at h ⊢
  simp [World.setCell, Array.getElem?_modify, h]
theorem grown_set {w : World} {g : Nat} (i : Nat) (u : Value) : w.grownBy (w.setCell ⟨g, i, none⟩ u) (some g) :=
  ⟨rfl, rfl, rfl, by simp [World.setCell], fun k _ hne => Below.heap_setCell w _ u k (fun e => hne (by rw [e]))⟩
theorem grown_drewN {w w' : World} {row : Option Nat} (h : w.grownBy w' row) (n : Nat) : w.grownBy (w'.drewN n) row := ⟨h.os, h.tape, h.output, h.size, h.block⟩
theorem Blk.below {w w' : World} {g : Nat} {cs : List Value} {t : TypeId} (h : Blk w g cs t) (hb : Below w.heap.size w w') : Blk w' g cs t := by
  unfold Blk
  rw [hb.block g h.lt]
  exact h
theorem Blk.other {w : World} {g g' : Nat} {cs : List Value} {t : TypeId} (h : Blk w g cs t) (hne : g ≠ g') (i : Nat) (u : Value) : Blk (w.setCell ⟨g', i, none⟩ u) g cs t := by
  unfold Blk
  rw [Below.heap_setCell w ⟨g', i, none⟩ u g hne]
  exact h
theorem Blk.new (w : World) (cs : List Value) (t : TypeId) : Blk (w.alloc (.cells cs.toArray t)) w.heap.size cs t := heap_alloc_new w _
theorem Blk.drew {w : World} {g : Nat} {cs : List Value} {t : TypeId} (h : Blk w g cs t) : Blk w.drew g cs t := h
theorem Blk.drewN {w : World} {g : Nat} {cs : List Value} {t : TypeId} (h : Blk w g cs t) (n : Nat) : Blk (w.drewN n) g cs t := h
end Go.Proofs.YtlmccjdpmhancaaGreatDoor
namespace Go.Proofs
open Go.Shelf
def Tryz.laysM316_ren : Go.Shelf.Ren := ⟨fun | 316 => 71 | n => n, fun | 9 => 9 | 3 => 3 | 4 => 4 | 37 => 120 | 0 => 0 | 127 => 121 | 5 => 5 | n => n, fun | n => n⟩
theorem Tryz.laysM316 : Go.Proofs.LaysM.n316 Tryz.prog Tryz.laysM316_ren := {
  mixed := by kernel_rfl
  f316 := Tryz.func71.trans (congrArg some (by kernel_rfl))
  t0 := Tryz.underlying0
  a0 := Tryz.isAgg0
  z0 := Tryz.sizeOf0
  v0 := Tryz.zeroValue0
  t3 := Tryz.underlying3
  a3 := Tryz.isAgg3
  z3 := Tryz.sizeOf3
  v3 := Tryz.zeroValue3
  t4 := Tryz.underlying4
  a4 := Tryz.isAgg4
  z4 := Tryz.sizeOf4
  v4 := Tryz.zeroValue4
  t9 := Tryz.underlying9
  a9 := Tryz.isAgg9
  z9 := Tryz.sizeOf9
  v9 := Tryz.zeroValue9
  t37 := Tryz.underlying120
  a37 := Tryz.isAgg120
  z37 := Tryz.sizeOf120
  v37 := Tryz.zeroValue120
  t127 := Tryz.underlying121
  a127 := Tryz.isAgg121
  z127 := Tryz.sizeOf121
  v127 := Tryz.zeroValue121
  t5 := Tryz.underlying5
  a5 := Tryz.isAgg5
  z5 := Tryz.sizeOf5
  v5 := Tryz.zeroValue5
  i0 := by kernel_rfl
  i3 := by kernel_rfl
  i4 := by kernel_rfl
  i5 := by kernel_rfl
  i9 := by kernel_rfl
  i37 := by kernel_rfl
  i127 := by kernel_rfl }
open Go.RowKit in
theorem Tryz.stringslite_Clone (s : ByteArray) (w : World) (hlim : s.size ≤ 281474976710656) :
    Calls Tryz.prog 71 #[.string s] w fun e w' => e = .returned (.string s) ∧ Below w.heap.size w w' := Any.stringslite_Clone Tryz.laysM316 s w hlim
def Tryz.lays143_ren : Go.Shelf.Ren := ⟨fun | 143 => 134 | 219 => 139 | 217 => 141 | 225 => 142 | 224 => 143 | 267 => 144 | 266 => 145 | 314 => 146 | n => n, fun | 9 => 9 | 3 => 3 | 4 => 4 | 5 => 5 | 46 => 119 | 146 => 156 | 51 => 132 | n => n, fun | 1 => 0 | n => n⟩
theorem Tryz.lays143 : Go.Proofs.Lays.n143 Tryz.prog Tryz.lays143_ren := {
  mixed := by kernel_rfl
  f143 := Tryz.func134.trans (congrArg some (by kernel_rfl))
  f217 := Tryz.func141.trans (congrArg some (by kernel_rfl))
  f219 := Tryz.func139.trans (congrArg some (by kernel_rfl))
  f224 := Tryz.func143.trans (congrArg some (by kernel_rfl))
  f225 := Tryz.func142.trans (congrArg some (by kernel_rfl))
  f266 := Tryz.func145.trans (congrArg some (by kernel_rfl))
  f267 := Tryz.func144.trans (congrArg some (by kernel_rfl))
  f314 := Tryz.func146.trans (congrArg some (by kernel_rfl))
  t3 := Tryz.underlying3
  a3 := Tryz.isAgg3
  z3 := Tryz.sizeOf3
  v3 := Tryz.zeroValue3
  t4 := Tryz.underlying4
  a4 := Tryz.isAgg4
  z4 := Tryz.sizeOf4
  v4 := Tryz.zeroValue4
  t5 := Tryz.underlying5
  a5 := Tryz.isAgg5
  z5 := Tryz.sizeOf5
  v5 := Tryz.zeroValue5
  t9 := Tryz.underlying9
  a9 := Tryz.isAgg9
  z9 := Tryz.sizeOf9
  v9 := Tryz.zeroValue9
  t46 := Tryz.underlying119
  a46 := Tryz.isAgg119
  z46 := Tryz.sizeOf119
  v46 := Tryz.zeroValue119
  t51 := Tryz.underlying132
  a51 := Tryz.isAgg132
  z51 := Tryz.sizeOf132
  v51 := Tryz.zeroValue132
  t146 := Tryz.underlying156
  a146 := Tryz.isAgg156
  z146 := Tryz.sizeOf156
  v146 := Tryz.zeroValue156
  g1 := by kernel_rfl }
open Go.RowKit Go.Lib in
theorem Tryz.strings_Index_one (s : ByteArray) (c : UInt8) (w : World) :
    Calls Tryz.prog 134 #[.string s, .string ⟨#[c]⟩] w fun e w' => e = .returned (.int .i64 (Lib.indexByte s.data.toList c)) ∧ w' = w := Any.strings_Index_one Tryz.lays143 s c w
open Go.RowKit Go.Lib in
theorem Tryz.strings_Index (s sub : ByteArray) (m : Int) (w : World) (hs : s.size < 4294967281) (hm : w.cell? ⟨0, 0, none⟩ = some (.int .i64 m)) :
    Calls Tryz.prog 134 #[.string s, .string sub] w fun e w' => e = .returned (.int .i64 (Lib.index s.data.toList sub.data.toList)) ∧ w' = w := Any.strings_Index Tryz.lays143 s sub m w hs hm
def Tryz.lays138_ren : Go.Shelf.Ren := ⟨fun | 138 => 133 | 195 => 136 | 218 => 138 | 143 => 134 | 219 => 139 | 217 => 141 | 225 => 142 | 224 => 143 | 267 => 144 | 266 => 145 | 314 => 146 | n => n, fun | 9 => 9 | 3 => 3 | 4 => 4 | 5 => 5 | 0 => 0 | 46 => 119 | 146 => 156 | 51 => 132 | n => n, fun | 1 => 0 | n => n⟩
theorem Tryz.lays138 : Go.Proofs.Lays.n138 Tryz.prog Tryz.lays138_ren := {
  mixed := by kernel_rfl
  f138 := Tryz.func133.trans (congrArg some (by kernel_rfl))
  f143 := Tryz.func134.trans (congrArg some (by kernel_rfl))
  f195 := Tryz.func136.trans (congrArg some (by kernel_rfl))
  f217 := Tryz.func141.trans (congrArg some (by kernel_rfl))
  f218 := Tryz.func138.trans (congrArg some (by kernel_rfl))
  f219 := Tryz.func139.trans (congrArg some (by kernel_rfl))
  f224 := Tryz.func143.trans (congrArg some (by kernel_rfl))
  f225 := Tryz.func142.trans (congrArg some (by kernel_rfl))
  f266 := Tryz.func145.trans (congrArg some (by kernel_rfl))
  f267 := Tryz.func144.trans (congrArg some (by kernel_rfl))
  f314 := Tryz.func146.trans (congrArg some (by kernel_rfl))
  t0 := Tryz.underlying0
  a0 := Tryz.isAgg0
  z0 := Tryz.sizeOf0
  v0 := Tryz.zeroValue0
  t3 := Tryz.underlying3
  a3 := Tryz.isAgg3
  z3 := Tryz.sizeOf3
  v3 := Tryz.zeroValue3
  t4 := Tryz.underlying4
  a4 := Tryz.isAgg4
  z4 := Tryz.sizeOf4
  v4 := Tryz.zeroValue4
  t5 := Tryz.underlying5
  a5 := Tryz.isAgg5
  z5 := Tryz.sizeOf5
  v5 := Tryz.zeroValue5
  t9 := Tryz.underlying9
  a9 := Tryz.isAgg9
  z9 := Tryz.sizeOf9
  v9 := Tryz.zeroValue9
  t46 := Tryz.underlying119
  a46 := Tryz.isAgg119
  z46 := Tryz.sizeOf119
  v46 := Tryz.zeroValue119
  t51 := Tryz.underlying132
  a51 := Tryz.isAgg132
  z51 := Tryz.sizeOf132
  v51 := Tryz.zeroValue132
  t146 := Tryz.underlying156
  a146 := Tryz.isAgg156
  z146 := Tryz.sizeOf156
  v146 := Tryz.zeroValue156
  g1 := by kernel_rfl }
def Tryz.lays99_ren : Go.Shelf.Ren := ⟨fun | 99 => 108 | 206 => 123 | n => n, fun | 9 => 9 | 4 => 4 | 3 => 3 | n => n, fun | n => n⟩
theorem Tryz.lays99 : Go.Proofs.Lays.n99 Tryz.prog Tryz.lays99_ren := {
  mixed := by kernel_rfl
  f99 := Tryz.func108.trans (congrArg some (by kernel_rfl))
  f206 := Tryz.func123.trans (congrArg some (by kernel_rfl))
  t3 := Tryz.underlying3
  a3 := Tryz.isAgg3
  z3 := Tryz.sizeOf3
  v3 := Tryz.zeroValue3
  t4 := Tryz.underlying4
  a4 := Tryz.isAgg4
  z4 := Tryz.sizeOf4
  v4 := Tryz.zeroValue4
  t9 := Tryz.underlying9
  a9 := Tryz.isAgg9
  z9 := Tryz.sizeOf9
  v9 := Tryz.zeroValue9 }
open Go.RowKit Go.Lib in
theorem Tryz.strings_HasPrefix (s p : ByteArray) (w : World) :
    Calls Tryz.prog 108 #[.string s, .string p] w fun e w' => e = .returned (.bool (Lib.hasPrefix s.data.toList p.data.toList)) ∧ w' = w := Any.strings_HasPrefix Tryz.lays99 s p w
def Tryz.lays221_ren : Go.Shelf.Ren := ⟨fun | 221 => 125 | 268 => 132 | 138 => 133 | 143 => 134 | 195 => 136 | 197 => 137 | 218 => 138 | 219 => 139 | 260 => 140 | 217 => 141 | 225 => 142 | 224 => 143 | 267 => 144 | 266 => 145 | 314 => 146 | n => n, fun | 9 => 9 | 3 => 3 | 31 => 25 | 4 => 4 | 0 => 0 | 105 => 149 | 21 => 21 | 5 => 5 | 46 => 119 | 119 => 152 | 139 => 155 | 138 => 154 | 146 => 156 | 51 => 132 | n => n, fun | 1 => 0 | 3 => 1 | 4 => 2 | n => n⟩
theorem Tryz.lays221 : Go.Proofs.Lays.n221 Tryz.prog Tryz.lays221_ren := {
  mixed := by kernel_rfl
  f138 := Tryz.func133.trans (congrArg some (by kernel_rfl))
  f143 := Tryz.func134.trans (congrArg some (by kernel_rfl))
  f195 := Tryz.func136.trans (congrArg some (by kernel_rfl))
  f197 := Tryz.func137.trans (congrArg some (by kernel_rfl))
  f217 := Tryz.func141.trans (congrArg some (by kernel_rfl))
  f218 := Tryz.func138.trans (congrArg some (by kernel_rfl))
  f219 := Tryz.func139.trans (congrArg some (by kernel_rfl))
  f221 := Tryz.func125.trans (congrArg some (by kernel_rfl))
  f224 := Tryz.func143.trans (congrArg some (by kernel_rfl))
  f225 := Tryz.func142.trans (congrArg some (by kernel_rfl))
  f260 := Tryz.func140.trans (congrArg some (by kernel_rfl))
  f266 := Tryz.func145.trans (congrArg some (by kernel_rfl))
  f267 := Tryz.func144.trans (congrArg some (by kernel_rfl))
  f268 := Tryz.func132.trans (congrArg some (by kernel_rfl))
  f314 := Tryz.func146.trans (congrArg some (by kernel_rfl))
  t0 := Tryz.underlying0
  a0 := Tryz.isAgg0
  z0 := Tryz.sizeOf0
  v0 := Tryz.zeroValue0
  t3 := Tryz.underlying3
  a3 := Tryz.isAgg3
  z3 := Tryz.sizeOf3
  v3 := Tryz.zeroValue3
  t4 := Tryz.underlying4
  a4 := Tryz.isAgg4
  z4 := Tryz.sizeOf4
  v4 := Tryz.zeroValue4
  t5 := Tryz.underlying5
  a5 := Tryz.isAgg5
  z5 := Tryz.sizeOf5
  v5 := Tryz.zeroValue5
  t9 := Tryz.underlying9
  a9 := Tryz.isAgg9
  z9 := Tryz.sizeOf9
  v9 := Tryz.zeroValue9
  t21 := Tryz.underlying21
  a21 := Tryz.isAgg21
  z21 := Tryz.sizeOf21
  v21 := Tryz.zeroValue21
  t31 := Tryz.underlying25
  a31 := Tryz.isAgg25
  z31 := Tryz.sizeOf25
  v31 := Tryz.zeroValue25
  t46 := Tryz.underlying119
  a46 := Tryz.isAgg119
  z46 := Tryz.sizeOf119
  v46 := Tryz.zeroValue119
  t51 := Tryz.underlying132
  a51 := Tryz.isAgg132
  z51 := Tryz.sizeOf132
  v51 := Tryz.zeroValue132
  t105 := Tryz.underlying149
  a105 := Tryz.isAgg149
  z105 := Tryz.sizeOf149
  v105 := Tryz.zeroValue149
  t119 := Tryz.underlying152
  a119 := Tryz.isAgg152
  z119 := Tryz.sizeOf152
  t138 := Tryz.underlying154
  a138 := Tryz.isAgg154
  z138 := Tryz.sizeOf154
  v138 := Tryz.zeroValue154
  t139 := Tryz.underlying155
  a139 := Tryz.isAgg155
  z139 := Tryz.sizeOf155
  v139 := Tryz.zeroValue155
  t146 := Tryz.underlying156
  a146 := Tryz.isAgg156
  z146 := Tryz.sizeOf156
  v146 := Tryz.zeroValue156
  g1 := by kernel_rfl
  g3 := by kernel_rfl
  g4 := by kernel_rfl }
def Tryz.lays147_ren : Go.Shelf.Ren := ⟨fun | 147 => 111 | 221 => 125 | 268 => 132 | 138 => 133 | 143 => 134 | 195 => 136 | 197 => 137 | 218 => 138 | 219 => 139 | 260 => 140 | 217 => 141 | 225 => 142 | 224 => 143 | 267 => 144 | 266 => 145 | 314 => 146 | n => n, fun | 9 => 9 | 3 => 3 | 31 => 25 | 4 => 4 | 0 => 0 | 105 => 149 | 21 => 21 | 5 => 5 | 46 => 119 | 119 => 152 | 139 => 155 | 138 => 154 | 146 => 156 | 51 => 132 | n => n, fun | 1 => 0 | 3 => 1 | 4 => 2 | n => n⟩
theorem Tryz.lays147 : Go.Proofs.Lays.n147 Tryz.prog Tryz.lays147_ren := {
  mixed := by kernel_rfl
  f138 := Tryz.func133.trans (congrArg some (by kernel_rfl))
  f143 := Tryz.func134.trans (congrArg some (by kernel_rfl))
  f147 := Tryz.func111.trans (congrArg some (by kernel_rfl))
  f195 := Tryz.func136.trans (congrArg some (by kernel_rfl))
  f197 := Tryz.func137.trans (congrArg some (by kernel_rfl))
  f217 := Tryz.func141.trans (congrArg some (by kernel_rfl))
  f218 := Tryz.func138.trans (congrArg some (by kernel_rfl))
  f219 := Tryz.func139.trans (congrArg some (by kernel_rfl))
  f221 := Tryz.func125.trans (congrArg some (by kernel_rfl))
  f224 := Tryz.func143.trans (congrArg some (by kernel_rfl))
  f225 := Tryz.func142.trans (congrArg some (by kernel_rfl))
  f260 := Tryz.func140.trans (congrArg some (by kernel_rfl))
  f266 := Tryz.func145.trans (congrArg some (by kernel_rfl))
  f267 := Tryz.func144.trans (congrArg some (by kernel_rfl))
  f268 := Tryz.func132.trans (congrArg some (by kernel_rfl))
  f314 := Tryz.func146.trans (congrArg some (by kernel_rfl))
  t0 := Tryz.underlying0
  a0 := Tryz.isAgg0
  z0 := Tryz.sizeOf0
  v0 := Tryz.zeroValue0
  t3 := Tryz.underlying3
  a3 := Tryz.isAgg3
  z3 := Tryz.sizeOf3
  v3 := Tryz.zeroValue3
  t4 := Tryz.underlying4
  a4 := Tryz.isAgg4
  z4 := Tryz.sizeOf4
  v4 := Tryz.zeroValue4
  t5 := Tryz.underlying5
  a5 := Tryz.isAgg5
  z5 := Tryz.sizeOf5
  v5 := Tryz.zeroValue5
  t9 := Tryz.underlying9
  a9 := Tryz.isAgg9
  z9 := Tryz.sizeOf9
  v9 := Tryz.zeroValue9
  t21 := Tryz.underlying21
  a21 := Tryz.isAgg21
  z21 := Tryz.sizeOf21
  v21 := Tryz.zeroValue21
  t31 := Tryz.underlying25
  a31 := Tryz.isAgg25
  z31 := Tryz.sizeOf25
  v31 := Tryz.zeroValue25
  t46 := Tryz.underlying119
  a46 := Tryz.isAgg119
  z46 := Tryz.sizeOf119
  v46 := Tryz.zeroValue119
  t51 := Tryz.underlying132
  a51 := Tryz.isAgg132
  z51 := Tryz.sizeOf132
  v51 := Tryz.zeroValue132
  t105 := Tryz.underlying149
  a105 := Tryz.isAgg149
  z105 := Tryz.sizeOf149
  v105 := Tryz.zeroValue149
  t119 := Tryz.underlying152
  a119 := Tryz.isAgg152
  z119 := Tryz.sizeOf152
  t138 := Tryz.underlying154
  a138 := Tryz.isAgg154
  z138 := Tryz.sizeOf154
  v138 := Tryz.zeroValue154
  t139 := Tryz.underlying155
  a139 := Tryz.isAgg155
  z139 := Tryz.sizeOf155
  v139 := Tryz.zeroValue155
  t146 := Tryz.underlying156
  a146 := Tryz.isAgg156
  z146 := Tryz.sizeOf156
  v146 := Tryz.zeroValue156
  g1 := by kernel_rfl
  g3 := by kernel_rfl
  g4 := by kernel_rfl }
end Go.Proofs
namespace Go.Proofs.YtlmccjdpmhancaaGreatDoor
open Go.RowKit Go.Maps

/-! ### A world that has turned in some blocks alone -/
/-- Of what was there, only the blocks F may have turned. -/
structure Fr (F : Nat → Prop) (w w' : World) : Prop where
  os : w'.os = w.os
  tape : w'.tape = w.tape
  output : w'.output = w.output
  size : w.heap.size ≤ w'.heap.size
  block : ∀ k, k < w.heap.size → ¬ F k → w'.heap[k]? = w.heap[k]?
section
variable {F G : Nat → Prop} {a b c : World}
theorem Fr.refl (F : Nat → Prop) (w : World) : Fr F w w := ⟨rfl, rfl, rfl, Nat.le_refl _, fun _ _ _ => rfl⟩
theorem Fr.of_below (F : Nat → Prop) (h : Below a.heap.size a b) : Fr F a b := ⟨h.os, h.tape, h.output, h.size, fun k hk _ => h.block k hk⟩
theorem Fr.of_grown {row : Option Nat} (h : a.grownBy b row) (hr : ∀ k, row = some k → F k) : Fr F a b :=
  ⟨h.os, h.tape, h.output, h.size, fun k hk hn => h.block k hk (fun e => hn (hr k e.symm))⟩
theorem Fr.trans (h : Fr F a b) (k : Fr G b c) (hG : ∀ i, G i → F i ∨ a.heap.size ≤ i) : Fr F a c :=
  ⟨k.os.trans h.os, k.tape.trans h.tape, k.output.trans h.output, Nat.le_trans h.size k.size, fun i hi hn =>
    (k.block i (Nat.lt_of_lt_of_le hi h.size) (fun g => (hG i g).elim hn (by omega))).trans (h.block i hi hn)⟩
theorem Fr.to_below {B : Nat} (h : Fr F a b) (hF : ∀ i, F i → B ≤ i) (hB : B ≤ a.heap.size) : Below B a b :=
  ⟨h.os, h.tape, h.output, h.size, fun k hk => h.block k (by omega) (fun f => by have := hF k f; omega)⟩
end

theorem clone_any (s : ByteArray) (w : World) (hs : s.size ≤ 281474976710656) : Calls Tryz.prog 34 #[.string s] w fun e w' => e = .returned (.string s) ∧ Below w.heap.size w w' := by
  go_enter Tryz.func34, Tryz.ntmps34
  go_wp2_with fail
  refine (Tryz.stringslite_Clone s w hs).mono ?_
  rintro e w1 ⟨rfl, b1⟩
  go_wp2
  go_ret
  exact ⟨rfl, b1⟩

/-- append of one element of one cell, for the walk: where the new slice lies. -/
theorem wpApp1 {P : Program} (w : World) {ops : Array Oper} {rest : List Oper} {o : Oper} {a : Act} {Q : Exit → Act → World → Prop} (hgd : o.guard = none) (s x : Operand) (t : TypeId)
    (ho : o.op = .call { callee := .builtin .append, args := #[s, x], argTypes := #[t, t] })
    (base : Nat) (e : TypeId) (z : Value) (bytes : Nat) (ht : P.underlying t = some (.slice e)) (hinf : (P.info? e).map (fun i => (i.zero, i.size, i.bytes)) = some (some z, 1, bytes)) (hz : z.cells.size = 1)
    (A : Option Addr) (n c : Nat) (xs : List Value) (hs : a.eval s = .slice A n c) (hown : w.ownsRow base e 1 (.slice A n c) n xs)
    (ad : Addr) (u : Value) (hx : a.eval x = .slice (some ad) 1 1) (hu : w.cell? ad = some u) (h1 : u.oneCell' = true) (hbytes : (n + 1) * bytes ≤ 140737488355328) (hbase : base ≤ w.heap.size) (h63 : n + 1 ≤ maxLen)
    (h : ∀ A' c' w', w'.ownsRow base e 1 (.slice A' (n + 1) c') (n + 1) (xs ++ [u]) → w.grownBy w' (Value.slice A n c).ownBlock → ((Value.slice A' (n + 1) c').ownBlock = (Value.slice A n c).ownBlock ∨ (Value.slice A' (n + 1) c').ownBlock = some w.heap.size) →
      wpList P ops Q rest (a.put o.dst (.slice A' (n + 1) c')) w') : wpList P ops Q (o :: rest) a w := by
  obtain ⟨i, hi, hz0, hz1, hz2⟩ := info_parts hinf
  refine wpList_append_own_at w hgd s x t ho base e i z 1 bytes ht hi hz0 hz1 hz2 hz (by decide) _ n xs hs hown ad 1 1 [u] hx rfl ?_ (by simpa using h1) h63 hbytes hbase ?_
  · intro j v hv
    match j, hv with
    | 0, hv =>
      simp at hv
      subst hv
      simpa [Addr.add] using hu
  · intro v' w' h2 h3 _ h5
    obtain ⟨_, A', c', rfl, _⟩ := own_form h2
    exact h A' c' w' h2 h3 h5

theorem row_type {w : World} {A : Option Addr} {n c : Nat} {xs : List Value} {g : Nat} {cs : List Value} {t : TypeId} {e : TypeId} (hr : w.ownsRow 0 e 1 (.slice A n c) n xs) (hB : Blk w g cs t) (hne : t ≠ e) : (Value.slice A n c).ownBlock ≠ some g := by
  intro h
  rcases hr.2 with ⟨h1, _⟩ | ⟨g', cap, cur, h1, _, h2, _⟩
  · rw [h1] at h
    simp [Value.ownBlock] at h
  · rw [h1] at h
    simp [Value.ownBlock] at h
    subst h
    unfold Blk at hB
    rw [hB] at h2
    injection h2 with h2
    injection h2 with _ h2 _
    exact hne h2
theorem row_map {w : World} {A : Option Addr} {n c : Nat} {xs : List Value} {bm : Nat} {e : TypeId} {m : Nat} {D : DataW Unit} {t : TypeId} {R : Value → Option (DataW Unit × List MemPlace)} (hr : w.ownsRow 0 e 1 (.slice A n c) n xs) (hm : w.ownsMap Tryz.prog t R bm m D) : (Value.slice A n c).ownBlock ≠ some bm := by
  intro h
  obtain ⟨es, clock, hb, _⟩ := hm
  rcases hr.2 with ⟨h1, _⟩ | ⟨g', cap, cur, h1, _, h2, _⟩
  · rw [h1] at h
    simp [Value.ownBlock] at h
  · rw [h1] at h
    simp [Value.ownBlock] at h
    subst h
    rw [hb] at h2
    injection h2 with h2
    cases h2
theorem blk_map {w : World} {g bm : Nat} {cs : List Value} {t t' : TypeId} {m : Nat} {D : DataW Unit} {R : Value → Option (DataW Unit × List MemPlace)} (hB : Blk w g cs t) (hm : w.ownsMap Tryz.prog t' R bm m D) : bm ≠ g := by
  rintro rfl
  obtain ⟨es, clock, hb, _⟩ := hm
  unfold Blk at hB
  rw [hb] at hB
  injection hB with hB
  cases hB
theorem Blk.grown {w w' : World} {g : Nat} {cs : List Value} {t : TypeId} {row : Option Nat} (h : Blk w g cs t) (hg : w.grownBy w' row) (hne : row ≠ some g) : Blk w' g cs t := by
  unfold Blk
  rw [hg.block g h.lt (fun e => hne e.symm)]
  exact h
end Go.Proofs.YtlmccjdpmhancaaGreatDoor
namespace Go.Proofs.YtlmccjdpmhancaaGreatDoor
open Go.RowKit


/-- What path.parts cuts. -/
def cutB (s : ByteArray) : List ByteArray := Lib.splitB ⟨#[47]⟩ 0 (min 5 (s.size + 1) - 1) s
theorem size_len (s : ByteArray) : s.size = s.data.toList.length := by cases s; rfl
theorem cutB_data (s : ByteArray) : (cutB s).map (·.data.toList) = Lib.splitK [47] 0 (min 5 (s.data.toList.length + 1) - 1) s.data.toList := by
  unfold cutB
  rw [Lib.splitB_data, size_len]
theorem cutB_le (s : ByteArray) : (cutB s).length ≤ min 5 (s.size + 1) := by
  have := Lib.splitB_length_le ⟨#[47]⟩ 0 (min 5 (s.size + 1) - 1) s
  unfold cutB
  omega

theorem genSplit5 (s : ByteArray) (w : World) (hs : s.size < 4294967281) :
    Calls Tryz.prog 125 #[.string s, .string ⟨#[47]⟩, .int .i64 0, .int .i64 5] w fun e w' =>
      e = .returned (.slice (some ⟨w.heap.size, 0, none⟩) (cutB s).length (min 5 (s.size + 1))) ∧ w' = w.alloc (.cells (Lib.cellsOf (cutB s) (min 5 (s.size + 1))) 9) :=
  Any.strings_genSplit_core Tryz.lays221 (by kernel_rfl) s ⟨#[47]⟩ 0 5 (min 5 (s.size + 1)) w hs (by decide) (by decide)
    (fun x c _ => (Any.strings_Index_one { Tryz.lays221 with } x 47 _).mono fun e w' ⟨he, hw⟩ => ⟨by rw [he, ← Lib.index_one], hw⟩)
    ((Any.strings_Count_one { Tryz.lays221 with } s 47 w).mono fun e w' ⟨he, hw⟩ => ⟨by rw [he]; show _ = Ending.returned (Value.int .i64 ((Lib.count s.data.toList [47] : Nat) : Int)); rw [Lib.count_one]; rfl, hw⟩)
    (by decide) (by decide) (by rw [if_neg (by decide)]; omega)

set_option maxHeartbeats 400000 in
theorem splitN5 (s : ByteArray) (w : World) (hs : s.size < 4294967281) :
    Calls Tryz.prog 111 #[.string s, .string ⟨#[47]⟩, .int .i64 5] w fun e w' =>
      e = .returned (.slice (some ⟨w.heap.size, 0, none⟩) (cutB s).length (min 5 (s.size + 1))) ∧ w' = w.alloc (.cells (Lib.cellsOf (cutB s) (min 5 (s.size + 1))) 9) := by
  go_enter Tryz.func111, Tryz.ntmps111
  go_wp2_with fail
  refine (genSplit5 s _ hs).mono ?_
  rintro e w1 ⟨rfl, rfl⟩
  go_wp2
  go_ret
  exact ⟨rfl, rfl⟩

set_option maxHeartbeats 400000 in
theorem parts_any (s : ByteArray) (w : World) (hs : s.size < 4294967281) :
    Calls Tryz.prog 98 #[.string s] w fun e w' =>
      e = .returned (.slice (some ⟨w.heap.size, 0, none⟩) (cutB s).length (min 5 (s.size + 1))) ∧ w' = w.alloc (.cells (Lib.cellsOf (cutB s) (min 5 (s.size + 1))) 9) := by
  go_enter Tryz.func98, Tryz.ntmps98
  go_wp2_with fail
  refine (splitN5 s _ hs).mono ?_
  rintro e w1 ⟨rfl, rfl⟩
  go_wp2
  go_ret
  exact ⟨rfl, rfl⟩

set_option maxHeartbeats 400000 in
theorem ofName_any (b : UInt8) (w : World) :
    Calls Tryz.prog 124 #[.int .u8 (b.toNat : Int)] w fun e w' => e = .returned (.bool (okB b)) ∧ w = w' := by
  have hb : b.toNat < 256 := b.toNat_lt
  go_enter Tryz.func124, Tryz.ntmps124
  go_wp2
  all_goals
    go_ret
    refine ⟨ret_bool ?_, rfl⟩
    unfold okB
    rw [Bool.eq_iff_iff]
    simp
    omega

theorem take_ok (s : ByteArray) (j : Nat) (h : j < s.size) : (s.data.toList.take (j + 1)).all okB = ((s.data.toList.take j).all okB && okB s[j]) := by
  have e : s.data.toList[j]? = some s[j] := by
    have h' : j < s.data.size := h
    rw [Array.getElem?_toList, Array.getElem?_eq_getElem h']
    rfl
  rw [List.take_add_one, e, List.all_append]
  simp
theorem nameL_head {l : List UInt8} (h : nameL l = true) : 1 ≤ l.length ∧ l.length ≤ 12 ∧ l ≠ [46] ∧ l ≠ [46, 46] := by
  simp only [nameL, Bool.and_eq_true, decide_eq_true_eq] at h
  exact h.1
theorem nameL_no {l : List UInt8} (h : ¬ (1 ≤ l.length ∧ l.length ≤ 12 ∧ l ≠ [46] ∧ l ≠ [46, 46])) : false = nameL l := by
  cases hn : nameL l with
  | false => rfl
  | true => exact absurd (nameL_head hn) h

set_option maxHeartbeats 1000000 in
theorem name_any (s : ByteArray) (w : World) :
    Calls Tryz.prog 110 #[.string s] w fun e w' => e = .returned (.bool (nameL s.data.toList)) ∧ w = w' := by
  by_cases h1 : (s.size : Int) < 1
  · go_enter Tryz.func110, Tryz.ntmps110
    go_wp2
    go_ret
    exact ⟨ret_bool (nameL_no (by have := size_len s; omega)), rfl⟩
  by_cases h2 : (12 : Int) < s.size
  · go_enter Tryz.func110, Tryz.ntmps110
    go_wp2
    go_ret
    exact ⟨ret_bool (nameL_no (by have := size_len s; omega)), rfl⟩
  cases h3 : (s.toList == [46])
  case true =>
    have H := hid (show s.data.toList = [46] by rw [← Lib.toList_data s]; simpa using h3)
    go_enter Tryz.func110, Tryz.ntmps110
    go_wp2
    go_ret
    exact ⟨ret_bool (nameL_no (fun h => h.2.2.1 H.out)), rfl⟩
  cases h4 : (s.toList == [46, 46])
  case true =>
    have H := hid (show s.data.toList = [46, 46] by rw [← Lib.toList_data s]; simpa using h4)
    go_enter Tryz.func110, Tryz.ntmps110
    go_wp2
    go_ret
    exact ⟨ret_bool (nameL_no (fun h => h.2.2.2 H.out)), rfl⟩
  have HH := hid (show 1 ≤ s.data.toList.length ∧ s.data.toList.length ≤ 12 ∧ s.data.toList ≠ [46] ∧ s.data.toList ≠ [46, 46] by
    have hl := size_len s
    rw [Lib.toList_data s] at h3 h4
    exact ⟨by omega, by omega, by simpa using h3, by simpa using h4⟩)
  go_enter Tryz.func110, Tryz.ntmps110
  go_wp2_with fail
  go_loop [22] (fun i => ∃ j : Nat, j ≤ s.size ∧ i = .int .i64 j ∧ (s.data.toList.take j).all okB = true) (fun i => s.size - (intOf i).toNat)
  case atStart => exact ⟨0, by omega, rfl, by simp⟩
  case round =>
    obtain ⟨j, hj, rfl, hok⟩ := hrel
    by_cases hjn : j < s.size
    · have hlt : (j : Int) < s.size := by omega
      have HK := hid (take_ok s j hjn)
      have HO := hid hok
      clear hok
      go_wp2_with fail
      refine (ofName_any _ _).mono ?_
      rintro e w1 ⟨rfl, rfl⟩
      cases hb : okB s[j]
      · go_wp2
        go_ret
        refine ⟨ret_bool ?_, rfl⟩
        have hk : (s.data.toList.take (j + 1)).all okB = false := by rw [HK.out, HO.out, hb]; rfl
        cases hn : nameL s.data.toList with
        | false => rfl
        | true =>
          simp only [nameL, Bool.and_eq_true, List.all_eq_true] at hn
          have : (s.data.toList.take (j + 1)).all okB = true := List.all_eq_true.2 fun b hbm => hn.2 b (List.mem_of_mem_take hbm)
          rw [hk] at this
          cases this
      · go_wp2
        go_roundw
        case rel => exact ⟨j + 1, by omega, by go_num, by rw [HK.out, HO.out, hb]; rfl⟩
        case measure => simp [intOf]; omega
    · have e : s.size = j := by omega
      have HE := hid e
      have HO := hid hok
      have hnlt : ¬ (j : Int) < s.size := by omega
      clear e hok
      go_wp2
      go_ret
      refine ⟨ret_bool ?_, rfl⟩
      have hl := size_len s
      have ho := HO.out
      rw [← HE.out, hl, List.take_length] at ho
      have hh := HH.out
      simp only [nameL, ho, Bool.and_true]
      exact (decide_eq_true hh).symm
end Go.Proofs.YtlmccjdpmhancaaGreatDoor
namespace Go.Proofs.YtlmccjdpmhancaaGreatDoor
open Go.RowKit

/-- The bytes of strings. -/
def lst (ls : List ByteArray) : List (List UInt8) := ls.map (·.data.toList)
theorem lst_length (ls : List ByteArray) : (lst ls).length = ls.length := by simp [lst]
theorem lst_take (ls : List ByteArray) (j : Nat) (h : j < ls.length) : ((lst ls).take (j + 1)).all nameL = (((lst ls).take j).all nameL && nameL ls[j].data.toList) := by
  have e : (lst ls)[j]? = some ls[j].data.toList := by simp [lst, h]
  rw [List.take_add_one, e, List.all_append]
  simp
theorem fine_no {L : List (List UInt8)} (h : ¬ (1 ≤ L.length ∧ L.length ≤ 4)) : false = fineL L := by
  cases hf : fineL L with
  | false => rfl
  | true => exact absurd (fine_len hf) h

set_option maxHeartbeats 1000000 in
theorem fine_any (A : Option Addr) (n c : Nat) (ls : List ByteArray) (w : World) (hl : ls.length = n) (hr : Rd w A (strV ls)) :
    Calls Tryz.prog 97 #[.slice A n c] w fun e w' => e = .returned (.bool (fineL (lst ls))) ∧ w = w' := by
  have HL := hid (show (lst ls).length = n by rw [lst_length]; exact hl)
  have HL2 := hid hl
  clear hl
  by_cases h1 : (n : Int) < 1
  · go_enter Tryz.func97, Tryz.ntmps97
    go_wp2
    go_ret
    exact ⟨ret_bool (fine_no (by have := HL.out; omega)), rfl⟩
  by_cases h2 : (4 : Int) < n
  · go_enter Tryz.func97, Tryz.ntmps97
    go_wp2
    go_ret
    exact ⟨ret_bool (fine_no (by have := HL.out; omega)), rfl⟩
  go_enter Tryz.func97, Tryz.ntmps97
  go_wp2_with fail
  go_loop [15] (fun i => ∃ j : Nat, j ≤ n ∧ i = .int .i64 j ∧ ((lst ls).take j).all nameL = true) (fun i => n - (intOf i).toNat)
  case atStart => exact ⟨0, by omega, rfl, by simp⟩
  case round =>
    obtain ⟨j, hj, rfl, hok⟩ := hrel
    by_cases hjn : j < n
    · have hjl : j < ls.length := by rw [HL2.out]; exact hjn
      obtain ⟨b, off, rfl, hc, -⟩ := hr.at_ (k := j) (by rw [strV_length]; exact hjl)
      have h5 : w.cell? ⟨b, off + j, none⟩ = some (.string ls[j]) := by rw [hc]; simp [strV]
      have HK := hid (lst_take ls j hjl)
      have HO := hid hok
      clear hc hok
      have hz : (0 : Int) ≤ j := by omega
      have hlt : (j : Int) < n := by omega
      go_wp2_with fail
      refine (name_any _ _).mono ?_
      rintro e w1 ⟨rfl, rfl⟩
      cases hb : nameL ls[j].data.toList
      · go_wp2
        go_ret
        refine ⟨ret_bool ?_, rfl⟩
        have hk : ((lst ls).take (j + 1)).all nameL = false := by rw [HK.out, HO.out, hb]; rfl
        cases hn : fineL (lst ls) with
        | false => rfl
        | true =>
          have : ((lst ls).take (j + 1)).all nameL = true := List.all_eq_true.2 fun b hbm => fine_all hn b (List.mem_of_mem_take hbm)
          rw [hk] at this
          cases this
      · go_wp2
        go_roundw
        case rel => exact ⟨j + 1, by omega, by go_num, by rw [HK.out, HO.out, hb]; rfl⟩
        case measure => simp [intOf]; omega
    · have e : n = j := by omega
      have HE := hid e
      have HO := hid hok
      have hnlt : ¬ (j : Int) < n := by omega
      clear e hok
      go_wp2
      go_ret
      refine ⟨ret_bool ?_, rfl⟩
      have hl := HL.out
      have ho := HO.out
      rw [← HE.out, ← hl, List.take_length] at ho
      exact (fine_mk (by omega) (by omega) (List.all_eq_true.1 ho)).symm

/-- The cells that are cut. -/
def cutCells (s : ByteArray) : List Value := strV (cutB s) ++ List.replicate (min 5 (s.size + 1) - (cutB s).length) (Value.string ByteArray.empty)
theorem cells_cut (s : ByteArray) : Lib.cellsOf (cutB s) (min 5 (s.size + 1)) = (cutCells s).toArray := rfl
theorem rd_cut {w : World} {g : Nat} {s : ByteArray} {t : TypeId} (h : Blk w g (cutCells s) t) : Rd w (some ⟨g, 0, none⟩) (strV (cutB s)) := by
  refine .inr ⟨_, rfl, fun j u hu => ?_⟩
  rw [Addr.add_lit, Nat.zero_add, h.cell, cutCells, List.getElem?_append_left (List.getElem?_eq_some_iff.1 hu).1]
  exact hu
theorem cut_fine (s : ByteArray) : fineL (lst (cutB s)) = rightL s.data.toList := by
  rw [lst, cutB_data, split_fine]

set_option maxHeartbeats 400000 in
theorem right_any (s : ByteArray) (w : World) (hs : s.size < 4294967281) :
    Calls Tryz.prog 61 #[.string s] w fun e w' => e = .returned (.bool (rightL s.data.toList)) ∧ Below w.heap.size w w' := by
  go_enter Tryz.func61, Tryz.ntmps61
  go_wp2_with fail
  refine (parts_any s _ hs).mono ?_
  rintro e w1 ⟨rfl, hw1⟩
  have hb1 : Below w.heap.size w w1 := by rw [hw1]; exact (Below.refl _ _).alloc (Nat.le_refl _) _
  have hblk : Blk w1 w.heap.size (cutCells s) 9 := by rw [hw1, cells_cut]; exact Blk.new w _ _
  clear hw1
  go_wp2_with fail
  refine (fine_any _ _ _ (cutB s) _ rfl (rd_cut hblk)).mono ?_
  rintro e w2 ⟨rfl, rfl⟩
  go_wp2
  go_ret
  exact ⟨ret_bool (cut_fine s), hb1⟩

theorem set_self {α : Type} (l : List α) (j : Nat) (x : α) (h : l[j]? = some x) : l.set j x = l := by
  apply List.ext_getElem?
  intro i
  rw [List.getElem?_set]
  split
  · rename_i e
    subst e
    have := (List.getElem?_eq_some_iff.1 h).1
    rw [if_pos this, h]
  · rfl

/-- A slice of names was answered. -/
def NamesPost (w : World) (L : List (List UInt8)) (e : Ending) (w' : World) : Prop :=
  ∃ A c, e = .returned (.slice A L.length c) ∧ Rd w' A (strV (L.map mkS)) ∧ L.length ≤ c ∧ c ≤ 5 ∧ Below w.heap.size w w'

end Go.Proofs.YtlmccjdpmhancaaGreatDoor
namespace Go.Proofs.YtlmccjdpmhancaaGreatDoor
open Go.RowKit

theorem Rd.cells {w : World} {b off : Nat} {xs : List Value} (h : Rd w (some ⟨b, off, none⟩) xs) : ∀ j u, xs[j]? = some u → w.cell? ⟨b, off + j, none⟩ = some u := by
  intro j u hu
  rcases h with rfl | ⟨ad, he, hc⟩
  · simp at hu
  · injection he with he
    subst he
    have := hc j u hu
    rwa [Addr.add_lit] at this
theorem joinN_fine {L : List (List UInt8)} (h : fineL L = true) : joinN L = joinL L := by rw [joinN, if_pos h]
theorem joinN_not {L : List (List UInt8)} (h : fineL L = false) : joinN L = [] := by rw [joinN, if_neg (by simp [h])]

theorem map_dropLast {α β : Type} (f : α → β) (l : List α) : (l.map f).dropLast = l.dropLast.map f := by simp [List.dropLast_eq_take, List.map_take]

theorem app_data (a b : ByteArray) : (a ++ b).data.toList = a.data.toList ++ b.data.toList := by simp [ByteArray.data_append]
theorem app_size (a b : ByteArray) : (a ++ b).size = a.size + b.size := by rw [size_len, app_data, List.length_append, ← size_len, ← size_len]

set_option maxHeartbeats 1000000 in
theorem under_any (s d : ByteArray) (w : World) (hs : s.size < 4294967281) (hd : d.size < 4294967281) :
    Calls Tryz.prog 105 #[.string s, .string d] w fun e w' => e = .returned (.bool (underL s.data.toList d.data.toList)) ∧ Below w.heap.size w w' := by
  go_enter Tryz.func105, Tryz.ntmps105
  go_wp2_with fail
  refine (right_any s _ hs).mono ?_
  rintro e w1 ⟨rfl, hb1⟩
  cases h1 : rightL s.data.toList
  · go_wp2
    go_ret
    exact ⟨ret_bool (by simp [underL, h1]), hb1⟩
  · go_wp2_with fail
    refine (right_any d _ hd).mono ?_
    rintro e w2 ⟨rfl, hb2⟩
    have hb2' := hb1.trans (hb2.mono hb1.size)
    clear hb1 hb2
    cases h2 : rightL d.data.toList
    · go_wp2
      go_ret
      exact ⟨ret_bool (by simp [underL, h2]), hb2'⟩
    · go_wp2_with fail
      refine (Tryz.strings_HasPrefix _ _ _).mono ?_
      rintro e w3 ⟨rfl, rfl⟩
      go_wp2
      go_ret
      exact ⟨ret_bool (by simp [underL, h1, h2]), hb2'⟩

set_option maxHeartbeats 1000000 in
theorem clash_any (s d : ByteArray) (w : World) (hs : s.size < 4294967281) (hd : d.size < 4294967281) :
    Calls Tryz.prog 74 #[.string s, .string d] w fun e w' => e = .returned (.bool (clashL s.data.toList d.data.toList)) ∧ Below w.heap.size w w' := by
  go_enter Tryz.func74, Tryz.ntmps74
  go_wp2_with fail
  refine (under_any s d _ hs hd).mono ?_
  rintro e w1 ⟨rfl, hb1⟩
  cases h1 : underL s.data.toList d.data.toList
  · go_wp2_with fail
    refine (under_any d s _ hd hs).mono ?_
    rintro e w2 ⟨rfl, hb2⟩
    go_wp2
    go_ret
    exact ⟨ret_bool (by simp [clashL, h1]), hb1.trans (hb2.mono hb1.size)⟩
  · go_wp2
    go_ret
    exact ⟨ret_bool (by simp [clashL, h1]), hb1⟩

theorem range_step (L : List (List UInt8)) (j : Nat) : (List.range (j + 1)).all (srtAt L) = ((List.range j).all (srtAt L) && srtAt L j) := by
  rw [List.range_succ, List.all_append]
  simp
theorem sorted_no {L : List (List UInt8)} {j : Nat} (hj : j < L.length) (h : srtAt L j = false) : false = sortedL L := by
  cases hs : sortedL L with
  | false => rfl
  | true =>
    have := List.all_eq_true.1 hs j (List.mem_range.2 hj)
    rw [h] at this
    cases this
theorem lst_at (ls : List ByteArray) (j : Nat) (h : j < ls.length) : (lst ls).getD j [] = ls[j].data.toList := by simp [lst, List.getD, h]

set_option maxHeartbeats 2000000 in
theorem sorted_any (A : Option Addr) (n c : Nat) (ls : List ByteArray) (w : World) (hl : ls.length = n) (hr : Rd w A (strV ls)) (hn : n ≤ 140737488355328) (hss : ∀ s ∈ ls, s.size < 4294967281) :
    Calls Tryz.prog 27 #[.slice A n c] w fun e w' => e = .returned (.bool (sortedL (lst ls))) ∧ Below w.heap.size w w' := by
  have HL := hid hl
  have HS := hid hss
  clear hl hss
  go_enter Tryz.func27, Tryz.ntmps27
  go_wp2_with fail
  go_loopw [7] (fun i wr => ∃ j : Nat, j ≤ n ∧ i = .int .i64 j ∧ (List.range j).all (srtAt (lst ls)) = true ∧ Rd wr A (strV ls) ∧ Below w.heap.size w wr) (fun i _ => n - (intOf i).toNat)
  case atStart => exact ⟨0, by omega, rfl, by simp, hr, Below.refl _ _⟩
  case round =>
    clear hr
    obtain ⟨j, hj, rfl, hok, hr, hb⟩ := hrel
    have HO := hid hok
    clear hok
    by_cases hjn : j < n
    · have hjl : j < ls.length := by rw [HL.out]; exact hjn
      obtain ⟨b, off, rfl, hc, -⟩ := hr.at_ (k := j) (by rw [strV_length]; exact hjl)
      have h5 : wr.cell? ⟨b, off + j, none⟩ = some (.string ls[j]) := by rw [hc]; simp [strV]
      have HT := hid (show (lst ls).getD j [] = ls[j].data.toList from lst_at ls j hjl)
      have HLL := hid (show j < (lst ls).length by rw [lst_length]; exact hjl)
      clear hc
      have hz : (0 : Int) ≤ j := by omega
      have hlt : (j : Int) < n := by omega
      go_wp2_with fail
      refine (right_any ls[j] _ (HS.out _ (List.getElem_mem hjl))).mono ?_
      rintro e w1 ⟨rfl, hb1⟩
      have hr1 := hr.below hb1
      have hb1' := hb.trans (hb1.mono hb.size)
      clear hr hb hb1 h5
      cases h1 : rightL ls[j].data.toList
      · go_wp2
        go_ret
        exact ⟨ret_bool (sorted_no HLL.out (by simp only [srtAt, HT.out, h1, Bool.false_and])), hb1'⟩
      · by_cases hj0 : j = 0
        · subst hj0
          go_wp2
          go_roundw
          case rel => exact ⟨1, by omega, by go_num, by rw [range_step, HO.out, srtAt, HT.out, h1]; rfl, hr1, hb1'⟩
          case measure => simp [intOf]; omega
        · have hjl2 : j - 1 < ls.length := by omega
          obtain ⟨b2, off2, he, hc2, -⟩ := hr1.at_ (k := j - 1) (by rw [strV_length]; exact hjl2)
          injection he with he
          injection he with he1 he2
          subst he1 he2
          have h6 : w1.cell? ⟨b, off + (j - 1), none⟩ = some (.string ls[j - 1]) := by rw [hc2]; simp [strV]
          have HU := hid (lst_at ls (j - 1) hjl2)
          have hpos : (0 : Int) < j := by omega
          clear hc2
          have hj1 : ((j : Int) - 1) = ((j - 1 : Nat) : Int) := by omega
          cases h7 : Op.bytesLess ls[j - 1].toList ls[j].toList
          · go_wp2
            go_ret
            refine ⟨ret_bool (sorted_no HLL.out ?_), hb1'⟩
            rw [Lib.toList_data, Lib.toList_data] at h7
            rw [srtAt, HT.out, HU.out, h1, h7]
            simp [hj0]
          · go_wp2
            go_roundw
            case rel =>
              rw [Lib.toList_data, Lib.toList_data] at h7
              exact ⟨j + 1, by omega, by go_num, by rw [range_step, HO.out, srtAt, HT.out, HU.out, h1, h7]; simp, hr1, hb1'⟩
            case measure => simp [intOf]; omega
    · have hnlt : ¬ (j : Int) < n := by omega
      have e : j = n := by omega
      have HE := hid e
      clear e
      go_wp2
      go_ret
      refine ⟨ret_bool ?_, hb⟩
      have ho := HO.out
      rw [HE.out, ← HL.out, ← lst_length] at ho
      exact ho.symm
end Go.Proofs.YtlmccjdpmhancaaGreatDoor
namespace Go.Proofs.YtlmccjdpmhancaaGreatDoor
open Go.RowKit

theorem less_eq : ∀ (x y : List UInt8), Op.bytesLess x y = decide (x < y)
  | x, [] => by simp [Op.bytesLess]
  | [], _ :: _ => by simp [Op.bytesLess]
  | a :: x, b :: y => by
    rw [Op.bytesLess, less_eq x y, Bool.eq_iff_iff]
    simp [List.cons_lt_cons_iff]
theorem less_flip (a b : List UInt8) : (Op.bytesLess b a || b == a) = !Op.bytesLess a b := by
  rw [less_eq, less_eq, Bool.eq_iff_iff]
  simp only [Bool.or_eq_true, decide_eq_true_eq, beq_iff_eq, Bool.not_eq_true', decide_eq_false_iff_not]
  constructor
  · rintro (h | rfl)
    · exact List.lt_asymm h
    · exact List.lt_irrefl _
  · intro h
    have := List.not_lt.1 h
    rcases List.le_iff_lt_or_eq.1 this with h | h
    · exact .inl h
    · exact .inr h

theorem less_iff (a b : List UInt8) : Op.bytesLess a b = true ↔ a < b := by rw [less_eq]; simp
theorem srt_at {L : List (List UInt8)} (h : sortedL L = true) {i : Nat} (hi : i < L.length) : rightL L[i] = true ∧ ∀ h0 : 0 < i, L[i - 1] < L[i] := by
  have h1 := List.all_eq_true.1 h i (List.mem_range.2 hi)
  unfold srtAt at h1
  rw [Bool.and_eq_true, Bool.or_eq_true] at h1
  have e1 : L.getD i [] = L[i] := by simp [List.getD, hi]
  have e2 : L.getD (i - 1) [] = L[i - 1]'(by omega) := by simp [List.getD, show i - 1 < L.length by omega]
  rw [e1, e2] at h1
  refine ⟨h1.1, fun h0 => ?_⟩
  rcases h1.2 with h2 | h2
  · have : i = 0 := by simpa using h2
    omega
  · exact (less_iff _ _).1 h2
theorem srt_lt {L : List (List UInt8)} (h : sortedL L = true) : ∀ (d i : Nat) (hi : i + d + 1 < L.length), L[i] < L[i + d + 1]
  | 0, i, hi => (srt_at h hi).2 (by omega)
  | d + 1, i, hi => List.lt_trans (srt_lt h d i (by omega)) ((srt_at h hi).2 (by omega))
theorem srt_pair {L : List (List UInt8)} (h : sortedL L = true) : L.Pairwise (· < ·) := by
  rw [List.pairwise_iff_getElem]
  intro i j hi hj hij
  have := srt_lt h (j - i - 1) i (by omega)
  have e : i + (j - i - 1) + 1 = j := by omega
  simpa only [e] using this
theorem srt_mk {L : List (List UInt8)} (h1 : ∀ s ∈ L, rightL s = true) (h2 : L.Pairwise (· < ·)) : sortedL L = true := by
  refine List.all_eq_true.2 fun i hi => ?_
  have hi' := List.mem_range.1 hi
  unfold srtAt
  have e1 : L.getD i [] = L[i] := by simp [List.getD, hi']
  have e2 : L.getD (i - 1) [] = L[i - 1]'(by omega) := by simp [List.getD, show i - 1 < L.length by omega]
  rw [e1, e2, h1 _ (List.getElem_mem hi'), Bool.true_and, Bool.or_eq_true]
  by_cases h0 : i = 0
  · left; simp [h0]
  · right
    rw [less_iff]
    exact (List.pairwise_iff_getElem.1 h2) (i - 1) i (by omega) hi' (by omega)
theorem srt_right {L : List (List UInt8)} (h : sortedL L = true) : ∀ s ∈ L, rightL s = true := by
  intro s hs
  obtain ⟨i, hi, rfl⟩ := List.mem_iff_getElem.1 hs
  exact (srt_at h hi).1
theorem srt_less {L : List (List UInt8)} (h : sortedL L = true) {i k : Nat} (hi : i < L.length) (hk : k < i) : L[i] ≠ L[k] := by
  have := (List.pairwise_iff_getElem.1 (srt_pair h)) k i (by omega) hi hk
  intro e
  rw [e] at this
  exact List.lt_irrefl _ this
theorem srt_erase {L : List (List UInt8)} (h : sortedL L = true) (k : Nat) : sortedL (L.take k ++ L.drop (k + 1)) = true := by
  have hs : (L.take k ++ L.drop (k + 1)).Sublist L := by
    rw [← List.eraseIdx_eq_take_drop_succ]
    exact List.eraseIdx_sublist L k
  exact srt_mk (fun s hm => srt_right h s (hs.mem hm)) ((srt_pair h).sublist hs)
theorem srt_twice {L : List (List UInt8)} {k : Nat} (hk : k < L.length) : sortedL (L ++ [L[k]]) = false := by
  cases h : sortedL (L ++ [L[k]]) with
  | false => rfl
  | true =>
    have := List.pairwise_append.1 (srt_pair h)
    exact absurd (this.2.2 L[k] (List.getElem_mem hk) L[k] (by simp)) (List.lt_irrefl _)
theorem pre_iff (s d : List UInt8) : Lib.hasPrefix s (d ++ [47]) = true ↔ ∃ r, s = d ++ 47 :: r := by
  unfold Lib.hasPrefix
  rw [List.isPrefixOf_iff_prefix]
  constructor
  · rintro ⟨r, rfl⟩
    exact ⟨r, by simp⟩
  · rintro ⟨r, rfl⟩
    exact ⟨r, by simp⟩
theorem under_iff (a b : List UInt8) : underL a b = true ↔ rightL a = true ∧ rightL b = true ∧ ∃ ms, ms ≠ [] ∧ pieces a = pieces b ++ ms := by
  unfold underL
  rw [Bool.and_eq_true, Bool.and_eq_true, pre_iff, and_assoc]
  constructor
  · rintro ⟨h1, h2, r, rfl⟩
    exact ⟨h1, h2, pieces r, pieces_ne r, pieces_app b r⟩
  · rintro ⟨h1, h2, ms, hm, he⟩
    refine ⟨h1, h2, joinL ms, ?_⟩
    rw [← join_pieces a, he, joinL_app _ _ (pieces_ne b) hm, join_pieces]
theorem pieces_inj {a b : List UInt8} (h : pieces a = pieces b) : a = b := by rw [← join_pieces a, h, join_pieces]
theorem not_true {b : Bool} (h : ¬ b = true) : b = false := by cases b <;> simp_all
theorem under_self (a : List UInt8) : underL a a = false := by
  refine not_true fun h => ?_
  obtain ⟨_, _, ms, hm, he⟩ := (under_iff a a).1 h
  have := congrArg List.length he
  rw [List.length_append] at this
  exact hm (List.eq_nil_of_length_eq_zero (by omega))
theorem under_flip {a b : List UInt8} (h : underL a b = true) : underL b a = false := by
  refine not_true fun h2 => ?_
  obtain ⟨_, _, ms, hm, he⟩ := (under_iff a b).1 h
  obtain ⟨_, _, ms2, hm2, he2⟩ := (under_iff b a).1 h2
  have l1 := congrArg List.length he
  have l2 := congrArg List.length he2
  rw [List.length_append] at l1 l2
  exact hm (List.eq_nil_of_length_eq_zero (by omega))
theorem under_trans {a b c : List UInt8} (h : underL a b = true) (h2 : underL b c = true) : underL a c = true := by
  obtain ⟨r1, _, ms, hm, he⟩ := (under_iff a b).1 h
  obtain ⟨_, r3, ms2, hm2, he2⟩ := (under_iff b c).1 h2
  exact (under_iff a c).2 ⟨r1, r3, ms2 ++ ms, by simp [hm], by rw [he, he2, List.append_assoc]⟩
theorem under_both {a b c : List UInt8} (h : underL a b = true) (h2 : underL a c = true) (hne : b ≠ c) : clashL b c = true := by
  obtain ⟨_, r2, ms, hm, he⟩ := (under_iff a b).1 h
  obtain ⟨_, r3, ms2, hm2, he2⟩ := (under_iff a c).1 h2
  rw [he] at he2
  unfold clashL
  rw [Bool.or_eq_true, under_iff, under_iff]
  rcases List.append_eq_append_iff.1 he2 with ⟨k, hk, _⟩ | ⟨k, hk, _⟩
  · right
    refine ⟨r3, r2, k, ?_, hk⟩
    rintro rfl
    exact hne (pieces_inj (by rw [hk, List.append_nil]))
  · left
    refine ⟨r2, r3, k, ?_, hk⟩
    rintro rfl
    exact hne (pieces_inj (by rw [hk, List.append_nil]))
/-- A path of two names or more, and its parent. -/
theorem parent_of {a : List UInt8} (h : rightL a = true) (h2 : 2 ≤ (pieces a).length) : pieces (parentL a) = (pieces a).dropLast ∧ rightL (parentL a) = true ∧ parentL a ≠ [] := by
  have hf : fineL (pieces a).dropLast = true := by
    have hl := fine_len h
    refine fine_mk (by rw [List.length_dropLast]; omega) (by rw [List.length_dropLast]; omega) fun p hp => fine_all h p (List.dropLast_subset _ hp)
  have e : parentL a = joinL (pieces a).dropLast := by rw [parentL, names_right h, joinN_fine hf]
  rw [e]
  exact ⟨fine_pieces hf, right_join hf, right_ne (right_join hf)⟩
theorem parent_one {a : List UInt8} (h : (pieces a).length = 1) : parentL a = [] := by
  unfold parentL namesL
  split
  · cases hp : pieces a with
    | nil => rfl
    | cons x r =>
      rw [hp] at h
      have : r = [] := List.eq_nil_of_length_eq_zero (by simpa using h)
      rw [this]
      rfl
  · rfl
theorem parent_wrong {a : List UInt8} (h : rightL a = false) : parentL a = [] := by
  rw [parentL, names_wrong h]
  rfl
theorem parent_under {a : List UInt8} (h : parentL a ≠ []) : underL a (parentL a) = true := by
  cases hr : rightL a with
  | false => exact absurd (parent_wrong hr) h
  | true =>
    have hl := fine_len hr
    by_cases h1 : (pieces a).length = 1
    · exact absurd (parent_one h1) h
    · obtain ⟨e, r, _⟩ := parent_of hr (by omega)
      refine (under_iff _ _).2 ⟨hr, r, [(pieces a).getLast (pieces_ne a)], by simp, ?_⟩
      rw [e, List.dropLast_concat_getLast]
theorem under_two {a b : List UInt8} (h : underL a b = true) : 2 ≤ (pieces a).length := by
  obtain ⟨_, _, ms, hm, he⟩ := (under_iff a b).1 h
  rw [he, List.length_append]
  have h1 := List.length_pos_iff.2 (pieces_ne b)
  have h2 := List.length_pos_iff.2 hm
  omega
theorem under_right {a b : List UInt8} (h : underL a b = true) : rightL a = true := ((under_iff a b).1 h).1
theorem under_parent {a b : List UInt8} (h : underL a b = true) (hne : parentL a ≠ b) : underL (parentL a) b = true := by
  obtain ⟨e, r, _⟩ := parent_of (under_right h) (under_two h)
  obtain ⟨_, rb, ms, hm, he⟩ := (under_iff a b).1 h
  have e2 : (pieces a).dropLast = pieces b ++ ms.dropLast := by rw [he, List.dropLast_append_of_ne_nil hm]
  refine (under_iff _ _).2 ⟨r, rb, ms.dropLast, ?_, by rw [e, e2]⟩
  intro h0
  rw [h0, List.append_nil, ← e] at e2
  exact hne (pieces_inj e2)
theorem under_some {a b : List UInt8} (h : underL a b = true) : parentL a ≠ [] := (parent_of (under_right h) (under_two h)).2.2
theorem less_longer : ∀ (b r : List UInt8) (x : UInt8), b < b ++ x :: r
  | [], r, x => by simp
  | c :: b, r, x => by
    rw [List.cons_append, List.cons_lt_cons_iff]
    exact .inr ⟨rfl, less_longer b r x⟩
theorem under_less {a b : List UInt8} (h : underL a b = true) : (!(Op.bytesLess a b || a == b)) = true := by
  have h' := h
  unfold underL at h'
  rw [Bool.and_eq_true, Bool.and_eq_true, pre_iff] at h'
  obtain ⟨_, r, rfl⟩ := h'
  rw [less_flip b (b ++ 47 :: r), Bool.not_not, less_iff]
  exact less_longer b r 47
end Go.Proofs.YtlmccjdpmhancaaGreatDoor
