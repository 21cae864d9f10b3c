/- The texts Mem, Wa, Wb, Blk, Wc, Wd, We, Rs, Wf, Wg, Pa, Pb, Pc, Rn, in one. -/
import Derived.Test.YteimgnmjmpeobaaDoorRows
import Derived.WalkKit
import Derived.WalkSpells
import Derived.WalkLawsBesides
import Derived.Lib.AppendStr
import Derived.Laws.IdiomStrings
import Derived.Laws.BytesArg
import Derived.Deep.DeepCutAuto
import Derived.Deep.QuietTactic
import Derived.BigQuiet
import Derived.WalkMore
import Derived.ScopeJumps
namespace Go.Proofs.YteimgnmjmpeobaaDoor
open Go.RowKit

theorem hid {p : Prop} (h : p) : Hid p := h

/-- The bytes as cells. -/
def by8 (l : List UInt8) : List Value := l.map fun b => .int .u8 (b.toNat : Int)
theorem by8_length (l : List UInt8) : (by8 l).length = l.length := by simp [by8]
theorem by8_append (a b : List UInt8) : by8 (a ++ b) = by8 a ++ by8 b := by simp [by8]
theorem by8_one (l : List UInt8) : ∀ u ∈ by8 l, u.oneCell' = true := by
  intro u hu
  obtain ⟨_, _, rfl⟩ := List.mem_map.1 hu
  rfl
theorem by8_at (l : List UInt8) (j : Nat) (h : j < l.length) : (by8 l)[j]? = some (.int .u8 (l[j].toNat : Int)) := by simp [by8, h]

/-- The strings as cells. -/
def strV (l : List ByteArray) : List Value := l.map Value.string
theorem strV_length (l : List ByteArray) : (strV l).length = l.length := by simp [strV]
theorem strV_one (l : List ByteArray) : ∀ u ∈ strV l, u.oneCell' = true := by
  intro u hu
  obtain ⟨_, _, rfl⟩ := List.mem_map.1 hu
  rfl
theorem strV_append (a b : List ByteArray) : strV (a ++ b) = strV a ++ strV b := by simp [strV]

theorem add_block (a : Addr) (n : Nat) : (a.add n).block = a.block := by unfold Addr.add; split <;> rfl
theorem add_assoc' (a : Addr) (i j : Nat) : (a.add i).add j = a.add (i + j) := by
  unfold Addr.add
  by_cases hi : i = 0 <;> by_cases hj : j = 0 <;> simp [hi, hj, Nat.add_assoc]

/-- The slice at A holds the cells xs. -/
def Rd (w : World) (A : Option Addr) (xs : List Value) : Prop :=
  xs = [] ∨ ∃ ad, A = some ad ∧ ∀ j u, xs[j]? = some u → w.cell? (ad.add j) = some u

section
variable {w w' : World} {A : Option Addr} {xs : List Value}
theorem Rd.nil : Rd w A [] := .inl rfl
theorem Rd.at_ (h : Rd w A xs) {k : Nat} (hk : k < xs.length) : ∃ b off, A = some ⟨b, off, none⟩ ∧ w.cell? ⟨b, off + k, none⟩ = some xs[k] ∧ b < w.heap.size := by
  rcases h with rfl | ⟨ad, rfl, hc⟩
  · simp at hk
  · have h0 := hc k xs[k] (List.getElem?_eq_getElem hk)
    have hb := World.block_lt_of_cell? w _ h0
    have hz := hc 0 _ (List.getElem?_eq_getElem (show 0 < xs.length by omega))
    have hs := World.cell?_spot hz
    obtain ⟨b, off, s⟩ := ad
    have : s = none := by simpa [Addr.add] using hs
    subst this
    rw [Addr.add_lit] at h0 hb
    exact ⟨b, off, rfl, h0, hb⟩
theorem Rd.keep (h : Rd w A xs) (hk : ∀ p : Addr, ∀ u, w.cell? p = some u → u ∈ xs → w'.cell? p = some u) : Rd w' A xs := by
  rcases h with rfl | ⟨ad, rfl, hc⟩
  · exact .inl rfl
  · exact .inr ⟨ad, rfl, fun j u hu => hk _ _ (hc j u hu) (List.mem_of_getElem? hu)⟩
theorem Rd.below (h : Rd w A xs) (hb : Below w.heap.size w w') : Rd w' A xs :=
  h.keep fun p _ hu _ => (hb.cell (World.block_lt_of_cell? w p hu)).trans hu
theorem Rd.alloc (h : Rd w A xs) (o : Obj) : Rd (w.alloc o) A xs := h.below ((Below.refl _ _).alloc (Nat.le_refl _) o)
theorem Rd.drew (h : Rd w A xs) : Rd w.drew A xs := h
/-- One block may have turned, and holds no cell of these. -/
theorem Rd.grown {g : Nat} (h : Rd w A xs) (hg : w.grownBy w' (some g)) (hne : ∀ o u, w.cell? ⟨g, o, none⟩ = some u → u ∉ xs) : Rd w' A xs := by
  refine h.keep fun p u hu hx => ?_
  refine (World.cell?_of_block (hg.block p.block (World.block_lt_of_cell? w p hu) ?_)).trans hu
  intro e
  have hs := World.cell?_spot hu
  obtain ⟨b, o, s⟩ := p
  simp at hs e
  subst hs; subst e
  exact hne o u hu hx
theorem Rd.grownNone (h : Rd w A xs) (hg : w.grownBy w' none) : Rd w' A xs :=
  h.keep fun p _ hu _ => (World.cell?_of_block (hg.block p.block (World.block_lt_of_cell? w p hu) (by simp))).trans hu
theorem Rd.of_own {base : Nat} {e : TypeId} {n c : Nat} (h : w.ownsRow base e 1 (.slice A n c) n xs) : Rd w A xs := by
  rcases h.2 with ⟨hv, hn⟩ | ⟨g, cap, cur, hv, _⟩
  · have : xs = [] := List.eq_nil_of_length_eq_zero (by have := h.1; omega)
    exact .inl this
  · injection hv with h1 h2 h3
    subst h1
    exact .inr ⟨_, rfl, h.cells (g := g) rfl⟩
/-- A cut of it. -/
theorem Rd.cut (h : Rd w A xs) {k m cap : Nat} (hk : k + m ≤ xs.length) (hc : xs.length ≤ cap) :
    Rd w (if cap = k then A else A.map (·.add k)) ((xs.drop k).take m) := by
  by_cases hm : m = 0
  · subst hm; simp; exact .inl rfl
  · rcases h with rfl | ⟨ad, rfl, hcell⟩
    · simp at hk; omega
    · rw [if_neg (by omega)]
      refine .inr ⟨ad.add k, rfl, fun j u hu => ?_⟩
      rw [add_assoc']
      refine hcell _ u ?_
      rw [List.getElem?_take] at hu
      split at hu
      · rw [← hu, List.getElem?_drop]
      · cases hu
end

/-- An owned slice shows what it is. -/
theorem own_form {w : World} {base : Nat} {e : TypeId} {v : Value} {n : Nat} {xs : List Value} (h : w.ownsRow base e 1 v n xs) :
    xs.length = n ∧ ∃ A c, v = .slice A n c ∧ n ≤ c ∧ c ≤ maxLen := by
  refine ⟨by have := h.1; omega, ?_⟩
  rcases h.2 with ⟨rfl, rfl⟩ | ⟨g, cap, cur, rfl, _, _, h1, h2, _⟩
  · exact ⟨none, 0, rfl, Nat.le_refl _, by unfold maxLen; omega⟩
  · exact ⟨_, cap, rfl, h1, h2⟩
theorem own_base {w : World} {base base' : Nat} {e : TypeId} {v : Value} {n : Nat} {xs : List Value} (h : w.ownsRow base e 1 v n xs) (hb : base' ≤ base) : w.ownsRow base' e 1 v n xs := by
  refine ⟨h.1, ?_⟩
  rcases h.2 with h2 | ⟨g, cap, cur, h2, h3, h4⟩
  · exact .inl h2
  · exact .inr ⟨g, cap, cur, h2, by omega, h4⟩
theorem grown_trans {a b c : World} {row : Option Nat} (h : a.grownBy b row) (k : b.grownBy c row) : a.grownBy c row :=
  ⟨k.os.trans h.os, k.tape.trans h.tape, k.output.trans h.output, Nat.le_trans h.size k.size, fun i hi hne => (k.block i (Nat.lt_of_lt_of_le hi h.size) hne).trans (h.block i hi hne)⟩
theorem grown_alloc {a b : World} {row : Option Nat} (h : a.grownBy b row) (o : Obj) : a.grownBy (b.alloc o) row := grown_trans h (World.grownBy_alloc b o row)
theorem grown_below {a b : World} {row : Option Nat} (h : Below a.heap.size a b) : a.grownBy b row := ⟨h.os, h.tape, h.output, h.size, fun i hi _ => h.block i hi⟩
theorem below_grown {B : Nat} {a b : World} {row : Option Nat} (hB : B ≤ a.heap.size) (hr : ∀ k, row = some k → B ≤ k) (h : a.grownBy b row) : Below B a b := (Below.refl B a).grown h hB hr

theorem run_app_nil {P : Program} (w : World) (base : Nat) (t ty e : TypeId) (i : TypeInfo) (ht : P.underlying t = some (.slice e)) (hi : P.info? e = some i)
    (v : Value) (n : Nat) (xs : List Value) (hown : w.ownsRow base e 1 v n xs) (c : Nat) : (Builtin.append_ #[t, t] ty #[v, .slice none 0 c]).run P w = .ok v w := by
  rcases hown.2 with ⟨rfl, rfl⟩ | ⟨g, cap, cur, rfl, _, _, hnc, _⟩
  · simp [Builtin.append_, run_underlying ht, sizeOf, typeInfo, hi, Builtin.lenOf, Builtin.firstCells]
  · simp [Builtin.append_, run_underlying ht, sizeOf, typeInfo, hi, Builtin.lenOf, Builtin.firstCells, hnc, storeCells]

/-- append(v, x...) for the walk: v the call's own, x whatever reads as news; elements of one cell. -/
theorem wpApp {P : Program} (w : World) {ops : Array Oper} {rest : List Oper} {o : Oper} {a : Act} {Q : Exit → Act → World → Prop} (hgd : o.guard = none) (s x : Operand) (t : TypeId)
    (ho : o.op = .call { callee := .builtin .append, args := #[s, x], argTypes := #[t, t] })
    (base : Nat) (e : TypeId) (z : Value) (bytes : Nat) (ht : P.underlying t = some (.slice e)) (hinf : (P.info? e).map (fun i => (i.zero, i.size, i.bytes)) = some (some z, 1, bytes)) (hz : z.cells.size = 1)
    (A : Option Addr) (n c : Nat) (xs : List Value) (hs : a.eval s = .slice A n c) (hown : w.ownsRow base e 1 (.slice A n c) n xs)
    (B : Option Addr) (m d : Nat) (news : List Value) (hx : a.eval x = .slice B m d) (hl : news.length = m) (hr : Rd w B news) (h1 : ∀ u ∈ news, u.oneCell' = true)
    (hbytes : (n + m) * bytes ≤ 140737488355328) (hbase : base ≤ w.heap.size) (h63 : n + m ≤ 9223372036854775807)
    (h : ∀ A' c' w', w'.ownsRow base e 1 (.slice A' (n + m) c') (n + m) (xs ++ news) → w.grownBy w' (Value.slice A n c).ownBlock → wpList P ops Q rest (a.put o.dst (.slice A' (n + m) c')) w') : wpList P ops Q (o :: rest) a w := by
  obtain ⟨i, hi, hz0, hz1, hz2⟩ := info_parts hinf
  have fin : ∀ v' w', w'.ownsRow base e 1 v' (n + m) (xs ++ news) → w.grownBy w' (Value.slice A n c).ownBlock → wpList P ops Q rest (a.put o.dst v') w' := by
    intro v' w' h2 h3
    obtain ⟨_, A', c', rfl, _⟩ := own_form h2
    exact h A' c' w' h2 h3
  rcases hr with rfl | ⟨ad, rfl, hc⟩
  · have hm : m = 0 := by simpa using hl.symm
    subst hm
    cases B with
    | none =>
      refine wpList_plain hgd fun K hK => ?_
      have hrun := run_app_nil (P := P) w base t o.type e i ht hi _ n xs hown d
      unfold Oper.wp
      simp [execOp, ho, resolve, invoke, builtin, hs, hx, hrun, Result.andThen]
      exact hK _ _ (fin _ _ (by simpa using hown) (World.grownBy.refl _ _))
    | some ad => exact wpList_append_own w hgd s x t ho base e i z 1 bytes ht hi hz0 hz1 hz2 hz (by decide) _ n xs hs hown ad 0 d [] hx (by simp) (by simp) (by simp) h63 hbytes hbase (fun v' w' h2 h3 _ => fin v' w' h2 h3)
  · exact wpList_append_own w hgd s x t ho base e i z 1 bytes ht hi hz0 hz1 hz2 hz (by decide) _ n xs hs hown ad m d news hx (by omega) hc h1 h63 hbytes hbase (fun v' w' h2 h3 _ => fin v' w' h2 h3)

/-- append(v, s...) of a string. -/
theorem wpAppS {P : Program} (w : World) {ops : Array Oper} {rest : List Oper} {o : Oper} {a : Act} {Q : Exit → Act → World → Prop} (hgd : o.guard = none) (sl x : Operand) (t u : TypeId)
    (ho : o.op = .call { callee := .builtin .append, args := #[sl, x], argTypes := #[t, u] })
    (base : Nat) (e : TypeId) (ht : P.underlying t = some (.slice e)) (hu : P.underlying u = some .string) (hinf : (P.info? e).map (fun i => (i.zero, i.size, i.bytes)) = some (some (.int .u8 0), 1, 1))
    (A : Option Addr) (n c : Nat) (xs : List Value) (hs : a.eval sl = .slice A n c) (hown : w.ownsRow base e 1 (.slice A n c) n xs) (s : ByteArray) (hx : a.eval x = .string s)
    (hbytes : n + s.size ≤ 140737488355328) (hbase : base ≤ w.heap.size)
    (h : ∀ A' c' w', w'.ownsRow base e 1 (.slice A' (n + s.size) c') (n + s.size) (xs ++ by8 s.data.toList) → w.grownBy w' (Value.slice A n c).ownBlock → wpList P ops Q rest (a.put o.dst (.slice A' (n + s.size) c')) w') : wpList P ops Q (o :: rest) a w := by
  obtain ⟨i, hi, hz0, hz1, hz2⟩ := info_parts hinf
  refine Lib.wpList_append_own_string w hgd sl x t u ho base e i ht hu hi hz0 hz1 hz2 _ n xs hs hown s hx (by unfold maxLen; omega) hbytes hbase ?_
  intro v' w' h2 h3 _
  obtain ⟨_, A', c', rfl, _⟩ := own_form h2
  exact h A' c' w' h2 h3

/-- string(b). -/
theorem conv_rd {P : Program} (w : World) (src dst e : TypeId) (hs : P.underlying src = some (.slice e)) (he : P.underlying e = some (.int .u8)) (hd : P.underlying dst = some .string)
    (A : Option Addr) (n c : Nat) (l : List UInt8) (hl : l.length = n) (h : Rd w A (by8 l)) : (convert src dst (.slice A n c)).run P w = .ok (.string ⟨l.toArray⟩) w := by
  subst hl
  rcases h with h | ⟨ad, rfl, hc⟩
  · have hn : l = [] := by simpa [by8] using h
    subst hn
    cases A with
    | none => exact run_convert_bytes_nil w src e hs he 0 c dst hd
    | some ad => exact run_convert_bytes_back w src dst e ad c [] hs he hd (by intro j hj; simp at hj)
  · exact run_convert_bytes_back w src dst e ad c l hs he hd (fun j hj => hc j _ (by8_at l j hj))

/-- The cells of a block that was just made. -/
theorem new_cells (w : World) (t : TypeId) (xs : List Value) : ∀ j u, xs[j]? = some u → (w.alloc (.cells xs.toArray t)).cell? ((⟨w.heap.size, 0, none⟩ : Addr).add j) = some u := by
  intro j u hu
  rw [Addr.add_lit, Nat.zero_add, cell_of_row _ w.heap.size j xs.toArray t (0, 0) (heap_alloc_new w _)]
  simpa using hu

theorem Tryd.info8 : (Tryd.prog.info? 5).map (fun i => (i.zero, i.size, i.bytes)) = some (some (.int .u8 0), 1, 1) := by kernel_rfl
theorem Tryd.infoS : (Tryd.prog.info? 9).map (fun i => (i.zero, i.size, i.bytes)) = some (some (.string ⟨#[]⟩), 1, 16) := by kernel_rfl
theorem own_app_block {w : World} {base : Nat} {e : TypeId} {A : Option Addr} {n c : Nat} {xs : List Value} (h : w.ownsRow base e 1 (.slice A n c) n xs) : ∀ k, (Value.slice A n c).ownBlock = some k → base ≤ k := fun k hk => (h.lt k hk).1
theorem ret_bool {a b : Bool} (h : a = b) : Ending.returned (.bool a) = .returned (.bool b) := by rw [h]
theorem ret_int {k : IntKind} {a b : Int} (h : a = b) : Ending.returned (.int k a) = .returned (.int k b) := by rw [h]
theorem ret_str {a b : ByteArray} (h : a = b) : Ending.returned (.string a) = .returned (.string b) := by rw [h]
theorem below2 {a b c : World} (h : Below a.heap.size a b) (k : Below b.heap.size b c) : Below a.heap.size a c := h.trans (k.mono h.size)
theorem below_new {w w' : World} (o : Obj) (h : Below (w.alloc o).heap.size (w.alloc o) w') : Below w.heap.size w w' := below2 ((Below.refl _ _).alloc (Nat.le_refl _) o) h

end Go.Proofs.YteimgnmjmpeobaaDoor
namespace Go.Proofs.YteimgnmjmpeobaaDoor
open Go.RowKit


/-- A number as it is clamped. -/
def clampN (x : Int) : Nat := (max 0 (min x 4294967295)).toNat
/-- A number's bytes. -/
def numB (x : Int) : List UInt8 := [UInt8.ofNat (clampN x / 16777216), UInt8.ofNat (clampN x / 65536), UInt8.ofNat (clampN x / 256), UInt8.ofNat (clampN x)]


theorem numB_cells (x a b c d : Int) (y : Nat) (hy : clampN x = y) (h1 : a = (y / 16777216 % 256 : Nat)) (h2 : b = (y / 65536 % 256 : Nat)) (h3 : c = (y / 256 % 256 : Nat)) (h4 : d = (y % 256 : Nat)) :
    [Value.int .u8 a, .int .u8 b, .int .u8 c, .int .u8 d] = by8 (numB x) := by
  subst h1 h2 h3 h4
  simp [by8, numB, hy]

/-- The first m bytes of a string. -/
def cutS (m : Nat) (s : ByteArray) : List UInt8 := s.data.toList.take m
/-- A string's bytes. -/
def strB (s : ByteArray) : List UInt8 := numB (min (s.size : Int) 16384) ++ cutS 16384 s

theorem size_list (s : ByteArray) : s.data.toList.length = s.size := by rw [Array.length_toList]; rfl
theorem cutS_length (m : Nat) (s : ByteArray) : (cutS m s).length = min m s.size := by rw [cutS, List.length_take, size_list]
theorem strB_length (s : ByteArray) : (strB s).length = 4 + min 16384 s.size := by simp [strB, numB, cutS_length]; omega
theorem strB_short (s : ByteArray) (h : s.size ≤ 16384) : strB s = numB s.size ++ s.data.toList := by
  unfold strB cutS
  rw [List.take_of_length_le (by rw [size_list]; exact h), show min (s.size : Int) 16384 = s.size by omega]
theorem extract_list (s : ByteArray) (m : Nat) : (s.extract 0 m).data.toList = s.data.toList.take m := by
  simp [ByteArray.data_extract, Array.toList_extract, List.extract]

end Go.Proofs.YteimgnmjmpeobaaDoor
namespace Go.Proofs.YteimgnmjmpeobaaDoor
open Go.RowKit

/-- The bytes of rows of strings, without their number. -/
def strsB (ls : List ByteArray) : List UInt8 := (ls.map strB).flatten
/-- A row's bytes. -/
def rowB (ls : List ByteArray) : List UInt8 := numB (min (ls.length : Int) 256) ++ strsB (ls.take 256)

theorem strsB_snoc (ls : List ByteArray) (k : Nat) (h : k < ls.length) : strsB (ls.take (k + 1)) = strsB (ls.take k) ++ strB ls[k] := by
  unfold strsB
  rw [List.take_succ_eq_append_getElem h, List.map_append, List.flatten_append]
  simp only [List.map_cons, List.map_nil, List.flatten_cons, List.flatten_nil, List.append_nil]
theorem strsB_le (ls : List ByteArray) : (strsB ls).length ≤ ls.length * 16388 := by
  unfold strsB
  induction ls with
  | nil => simp
  | cons a t ih =>
    simp only [List.map_cons, List.flatten_cons, List.length_append, List.length_cons]
    have := strB_length a
    omega

end Go.Proofs.YteimgnmjmpeobaaDoor
namespace Go.Proofs.YteimgnmjmpeobaaDoor
open Go.RowKit

/-! ### A block that is known whole -/
def Blk (w : World) (g : Nat) (cs : List Value) (t : TypeId) : Prop := w.heap[g]? = some (.cells cs.toArray t (0, 0))
theorem Blk.cell {w : World} {g : Nat} {cs : List Value} {t : TypeId} (h : Blk w g cs t) (i : Nat) : w.cell? ⟨g, i, none⟩ = cs[i]? := by
  rw [cell_of_row w g i cs.toArray t (0, 0) h]; simp
theorem Blk.frozen {w : World} {g : Nat} {cs : List Value} {t : TypeId} (h : Blk w g cs t) (i : Nat) : w.frozen? ⟨g, i, none⟩ = false := by
  unfold Blk at h
  simp [World.frozen?, h]
theorem Blk.lt {w : World} {g : Nat} {cs : List Value} {t : TypeId} (h : Blk w g cs t) : g < w.heap.size := (Array.getElem?_eq_some_iff.1 h).1
theorem Blk.set_ {w : World} {g : Nat} {cs : List Value} {t : TypeId} (h : Blk w g cs t) (i : Nat) (u : Value) : Blk (w.setCell ⟨g, i, none⟩ u) g (cs.set i u) t := by
  unfold Blk at h ⊢
  simp [World.setCell, Array.getElem?_modify, h]
theorem grown_set {w : World} {g : Nat} (i : Nat) (u : Value) : w.grownBy (w.setCell ⟨g, i, none⟩ u) (some g) :=
  ⟨rfl, rfl, rfl, by simp [World.setCell], fun k _ hne => Below.heap_setCell w _ u k (fun e => hne (by rw [e]))⟩
theorem grown_drewN {w w' : World} {row : Option Nat} (h : w.grownBy w' row) (n : Nat) : w.grownBy (w'.drewN n) row := ⟨h.os, h.tape, h.output, h.size, h.block⟩
theorem Blk.below {w w' : World} {g : Nat} {cs : List Value} {t : TypeId} (h : Blk w g cs t) (hb : Below w.heap.size w w') : Blk w' g cs t := by
  unfold Blk
  rw [hb.block g h.lt]
  exact h
theorem Blk.other {w : World} {g g' : Nat} {cs : List Value} {t : TypeId} (h : Blk w g cs t) (hne : g ≠ g') (i : Nat) (u : Value) : Blk (w.setCell ⟨g', i, none⟩ u) g cs t := by
  unfold Blk
  rw [Below.heap_setCell w ⟨g', i, none⟩ u g hne]
  exact h
theorem Blk.new (w : World) (cs : List Value) (t : TypeId) : Blk (w.alloc (.cells cs.toArray t)) w.heap.size cs t := heap_alloc_new w _
theorem Blk.drew {w : World} {g : Nat} {cs : List Value} {t : TypeId} (h : Blk w g cs t) : Blk w.drew g cs t := h
theorem Blk.drewN {w : World} {g : Nat} {cs : List Value} {t : TypeId} (h : Blk w g cs t) (n : Nat) : Blk (w.drewN n) g cs t := h
end Go.Proofs.YteimgnmjmpeobaaDoor
namespace Go.Proofs.YteimgnmjmpeobaaDoor
open Go.RowKit

/-! ### The reader, plainly -/
/-- The number that four bytes tell. -/
def num4 (l : List UInt8) (p : Nat) : Nat := (((l.getD p 0).toNat * 256 + (l.getD (p + 1) 0).toNat) * 256 + (l.getD (p + 2) 0).toNat) * 256 + (l.getD (p + 3) 0).toNat
/-- What Number tells, the place, the error. -/
def rNum (l : List UInt8) (p : Nat) (e : Int) (most : Int) : Int × Nat × Int :=
  if e ≠ 0 then (0, p, e) else if l.length < p + 4 then (0, p, 4) else if most < num4 l p then (0, p, 5) else (num4 l p, p + 4, 0)

theorem blk_not_by8 {w : World} {g : Nat} {A : Option Addr} {n c : Nat} {p e : Int} {t : TypeId} {l : List UInt8} (h : Blk w g [.slice A n c, .int .i64 p, .int .i64 e] t) : ∀ o u, w.cell? ⟨g, o, none⟩ = some u → u ∉ by8 l := by
  intro o u hu hm
  obtain ⟨b, _, rfl⟩ := List.mem_map.1 hm
  rw [h.cell o] at hu
  match o, hu with
  | 0, hu => simp at hu
  | 1, hu => simp at hu
  | 2, hu => simp at hu

theorem rNum_bad {l : List UInt8} {p : Nat} {e most : Int} (h : e ≠ 0) : rNum l p e most = (0, p, e) := by simp [rNum, h]
theorem rNum_short {l : List UInt8} {p : Nat} {most : Int} (h : l.length < p + 4) : rNum l p 0 most = (0, p, 4) := by simp [rNum, h]
theorem rNum_great {l : List UInt8} {p : Nat} {most : Int} (h : p + 4 ≤ l.length) (h' : most < num4 l p) : rNum l p 0 most = (0, p, 5) := by
  simp [rNum, h', show ¬ l.length < p + 4 by omega]
theorem rNum_ok {l : List UInt8} {p : Nat} {most : Int} (h : p + 4 ≤ l.length) (h' : (num4 l p : Int) ≤ most) : rNum l p 0 most = ((num4 l p : Int), p + 4, 0) := by
  simp [rNum, show ¬ most < num4 l p by omega, show ¬ l.length < p + 4 by omega]
theorem num4_lt (l : List UInt8) (p : Nat) : num4 l p < 4294967296 := by
  unfold num4
  have h0 := (l.getD p 0).toNat_lt
  have h1 := (l.getD (p + 1) 0).toNat_lt
  have h2 := (l.getD (p + 2) 0).toNat_lt
  have h3 := (l.getD (p + 3) 0).toNat_lt
  omega

/-- The number that the first k bytes tell. -/
def pnum (l : List UInt8) (p : Nat) : Nat → Nat
  | 0 => 0
  | k + 1 => pnum l p k * 256 + (l.getD (p + k) 0).toNat
theorem pnum_four (l : List UInt8) (p : Nat) : pnum l p 4 = num4 l p := by simp [pnum, num4]
theorem pnum_lt (l : List UInt8) (p : Nat) : ∀ k, pnum l p k < 256 ^ k
  | 0 => by simp [pnum]
  | k + 1 => by
    have := pnum_lt l p k
    have := (l.getD (p + k) 0).toNat_lt
    rw [pnum, Nat.pow_succ]
    omega
theorem pnum_small (l : List UInt8) (p k : Nat) (h : k < 4) : pnum l p k < 16777216 := by
  have h1 := pnum_lt l p k
  have : 256 ^ k ≤ 256 ^ 3 := Nat.pow_le_pow_right (by decide) (by omega)
  omega
/-- n<<8 | c. -/
theorem or_byte (n c : Nat) (hn : n < 16777216) (hc : c < 256) : bits .or .i64 ((n : Int) * 256) (c : Int) = ((n * 256 + c : Nat) : Int) := by
  have e1 : (BitVec.ofInt 64 ((n : Int) * 256)).toNat = n * 256 := by
    rw [show (n : Int) * 256 = ((n * 256 : Nat) : Int) by omega, BitVec.ofInt_natCast, BitVec.toNat_ofNat]
    exact Nat.mod_eq_of_lt (by omega)
  have e2 : (BitVec.ofInt 64 (c : Int)).toNat = c := by
    rw [BitVec.ofInt_natCast, BitVec.toNat_ofNat]
    exact Nat.mod_eq_of_lt (by omega)
  have e3 : n * 256 ||| c = n * 256 + c := by
    have := Nat.shiftLeft_add_eq_or_of_lt (i := 8) (b := c) (by omega) n
    rw [Nat.shiftLeft_eq] at this
    exact this.symm
  show IntKind.i64.wrap ((BitVec.ofInt 64 ((n : Int) * 256) ||| BitVec.ofInt 64 (c : Int)).toNat : Int) = _
  rw [BitVec.toNat_or, e1, e2, e3, IntKind.wrap_i64]
  omega

theorem byte_at {w : World} {b off : Nat} {l : List UInt8} {j : Nat} (h : Rd w (some ⟨b, off, none⟩) (by8 l)) (hj : j < l.length) : w.cell? ⟨b, off + j, none⟩ = some (.int .u8 ((l.getD j 0).toNat : Int)) := by
  obtain ⟨b', off', he, hc, _⟩ := h.at_ (k := j) (by rw [by8_length]; exact hj)
  injection he with he
  injection he with h1 h2
  subst h1 h2
  rw [hc]
  simp [by8, hj]

/-- What End tells. -/
def rEnd (l : List UInt8) (p : Nat) (e : Int) : Int := if e = 0 ∧ p < l.length then 4 else e

end Go.Proofs.YteimgnmjmpeobaaDoor
namespace Go.Proofs.YteimgnmjmpeobaaDoor
open Go.RowKit

/-- What String makes of what Number told. -/
def strOf (l : List UInt8) (p : Nat) (a : Int × Nat × Int) : List UInt8 × Nat × Int :=
  if a.2.2 ≠ 0 then ([], p, a.2.2) else if l.length < a.2.1 + a.1.toNat then ([], p, 4) else ((l.drop a.2.1).take a.1.toNat, a.2.1 + a.1.toNat, 0)
/-- What String tells, the place, the error. -/
def rStr (l : List UInt8) (p : Nat) (e : Int) (most : Int) : List UInt8 × Nat × Int := strOf l p (rNum l p e (min most 16384))

theorem rNum_cases (l : List UInt8) (p : Nat) (e most : Int) : (∃ e', e' ≠ 0 ∧ rNum l p e most = (0, p, e')) ∨ (∃ n : Nat, (n : Int) ≤ most ∧ n < 4294967296 ∧ e = 0 ∧ p + 4 ≤ l.length ∧ n = num4 l p ∧ rNum l p e most = ((n : Int), p + 4, 0)) := by
  by_cases he : e = 0
  · subst he
    by_cases hs : l.length < p + 4
    · exact .inl ⟨4, by decide, rNum_short hs⟩
    · by_cases hg : most < num4 l p
      · exact .inl ⟨5, by decide, rNum_great (by omega) hg⟩
      · exact .inr ⟨num4 l p, by omega, num4_lt l p, rfl, by omega, rfl, rNum_ok (by omega) (by omega)⟩
  · exact .inl ⟨e, he, rNum_bad he⟩

end Go.Proofs.YteimgnmjmpeobaaDoor
namespace Go.Proofs.YteimgnmjmpeobaaDoor
open Go.RowKit

/-- What j calls of String tell, one behind the other, up to the first error. -/
def steps (l : List UInt8) (each : Int) (p : Nat) : Nat → List (List UInt8) × Nat × Int
  | 0 => ([], p, 0)
  | j + 1 => if (steps l each p j).2.2 ≠ 0 then steps l each p j else
      if (rStr l (steps l each p j).2.1 0 each).2.2 ≠ 0 then ([], (steps l each p j).2.1, (rStr l (steps l each p j).2.1 0 each).2.2)
      else ((steps l each p j).1 ++ [(rStr l (steps l each p j).2.1 0 each).1], (rStr l (steps l each p j).2.1 0 each).2.1, 0)
/-- What Row makes of what Number told. -/
def rowOf (l : List UInt8) (p : Nat) (each : Int) (a : Int × Nat × Int) : List (List UInt8) × Nat × Int :=
  if a.2.2 ≠ 0 then ([], p, a.2.2) else if (steps l each a.2.1 a.1.toNat).2.2 ≠ 0 then ([], p, (steps l each a.2.1 a.1.toNat).2.2) else steps l each a.2.1 a.1.toNat
def rRow (l : List UInt8) (p : Nat) (e : Int) (most each : Int) : List (List UInt8) × Nat × Int := rowOf l p each (rNum l p e (min most 256))

/-- Lists of bytes as strings. -/
def toS (x : List UInt8) : ByteArray := ⟨x.toArray⟩
theorem toS_size (x : List UInt8) : (toS x).size = x.length := by simp [toS, ByteArray.size]

theorem steps_err (l : List UInt8) (each : Int) (p j : Nat) (h : (steps l each p j).2.2 ≠ 0) : ∀ k, j ≤ k → steps l each p k = steps l each p j := by
  intro k hk
  induction k with
  | zero => obtain rfl : j = 0 := by omega
            rfl
  | succ k ih =>
    by_cases hj : j = k + 1
    · rw [hj]
    · have := ih (by omega)
      rw [steps, if_pos (by rw [this]; exact h), this]

theorem grown_far {w0 w w' : World} {g row : Option Nat} (h : w0.grownBy w g) (hg : w.grownBy w' row) (hrow : ∀ k, row = some k → w0.heap.size ≤ k) : w0.grownBy w' g :=
  ⟨hg.os.trans h.os, hg.tape.trans h.tape, hg.output.trans h.output, Nat.le_trans h.size hg.size, fun i hi hne => (hg.block i (Nat.lt_of_lt_of_le hi h.size) (fun e => by have := hrow i e.symm; omega)).trans (h.block i hi hne)⟩

end Go.Proofs.YteimgnmjmpeobaaDoor
namespace Go.Proofs.YteimgnmjmpeobaaDoor
open Go.RowKit

end Go.Proofs.YteimgnmjmpeobaaDoor
namespace Go.Proofs.YteimgnmjmpeobaaDoor
open Go.RowKit

def fitsB (n : Nat) (most : Int) : Bool := decide ((n : Int) ≤ min most 16384)
theorem fitsB_yes {n : Nat} {most : Int} (h : (n : Int) ≤ min most 16384) : true = fitsB n most := (decide_eq_true h).symm
theorem fitsB_no {n : Nat} {most : Int} (h : ¬ (n : Int) ≤ min most 16384) : false = fitsB n most := (decide_eq_false h).symm

def SomeBool (w : World) (e : Ending) (w' : World) : Prop := ∃ bo, e = .returned (.bool bo) ∧ w = w'

end Go.Proofs.YteimgnmjmpeobaaDoor
namespace Go.Proofs.YteimgnmjmpeobaaDoor
open Go.RowKit

theorem rn1 : rNum [0, 0, 0, 9, 0, 0, 0, 1] 0 0 9 = (9, 4, 0) := by decide
theorem rn2 : rNum [0, 0, 0, 9, 0, 0, 0, 1] 4 0 0 = (0, 4, 5) := by decide
def L6 : List UInt8 := [0, 0, 0, 7, 0, 0, 0, 2, 97, 98, 0, 0, 0, 2, 0, 0, 0, 1, 99, 0, 0, 0, 0]
theorem L6eq : numB 7 ++ strB ⟨#[97, 98]⟩ ++ rowB [⟨#[99]⟩, ⟨#[]⟩] = L6 := by decide
theorem sl2 : (numB 7 ++ strB ⟨#[97, 98]⟩).length = 10 := by decide
theorem sl3 : 10 + (rowB [⟨#[99]⟩, ⟨#[]⟩]).length = 23 := by decide
theorem rn3 : rNum L6 0 0 9 = (7, 4, 0) := by decide
theorem rs3 : rStr L6 4 0 2 = ([97, 98], 10, 0) := by decide
theorem rr3 : rRow L6 10 0 2 1 = ([[99], []], 23, 0) := by decide
theorem re1 : rEnd [0, 0, 0, 9, 0, 0, 0, 1] 4 5 = 5 := by decide
theorem re2 : rEnd L6 23 0 = 0 := by decide
theorem sb1 : strB ⟨#[97, 98]⟩ = [0, 0, 0, 2, 97, 98] := by decide
theorem ft1 : fitsB (ByteArray.size ⟨#[97, 98]⟩) 2 = true := by decide
theorem ft2 : fitsB (ByteArray.size ⟨#[97, 98]⟩) 1 = false := by decide
theorem blk_not_str {w : World} {g : Nat} {A : Option Addr} {n c : Nat} {p e : Int} {t : TypeId} {l : List ByteArray} (h : Blk w g [.slice A n c, .int .i64 p, .int .i64 e] t) : ∀ o u, w.cell? ⟨g, o, none⟩ = some u → u ∉ strV l := by
  intro o u hu hm
  obtain ⟨b, _, rfl⟩ := List.mem_map.1 hm
  rw [h.cell o] at hu
  match o, hu with
  | 0, hu => simp at hu
  | 1, hu => simp at hu
  | 2, hu => simp at hu
theorem sl1 : (strB ⟨#[97, 98]⟩).length = 6 := by decide

end Go.Proofs.YteimgnmjmpeobaaDoor
namespace Go.Proofs.YteimgnmjmpeobaaDoor

theorem getD_drop (l : List UInt8) (p i : Nat) : l.getD (p + i) 0 = (l.drop p).getD i 0 := by simp [List.getD]
theorem numB_length (x : Int) : (numB x).length = 4 := rfl
theorem num4_drop (l : List UInt8) (p : Nat) : num4 l p = num4 (l.drop p) 0 := by
  unfold num4
  rw [getD_drop l p 1, getD_drop l p 2, getD_drop l p 3, show l.getD p 0 = (l.drop p).getD 0 0 from getD_drop l p 0]
theorem num4_numB (x : Int) (post : List UInt8) : num4 (numB x ++ post) 0 = clampN x := by
  have h : clampN x ≤ 4294967295 := by unfold clampN; omega
  simp [num4, numB]
  omega
theorem len_drop {l s post : List UInt8} {p : Nat} (h : l.drop p = s ++ post) (hs : s ≠ []) : p + s.length ≤ l.length := by
  have h1 := congrArg List.length h
  rw [List.length_drop, List.length_append] at h1
  have : 0 < s.length := List.length_pos_iff.2 hs
  omega
theorem rNum_back {l post : List UInt8} {p : Nat} {x most : Int} (h : l.drop p = numB x ++ post) (hm : (clampN x : Int) ≤ most) : rNum l p 0 most = ((clampN x : Int), p + 4, 0) := by
  have hl := len_drop h (by simp [numB])
  rw [numB_length] at hl
  have h4 : num4 l p = clampN x := by rw [num4_drop, h, num4_numB]
  rw [rNum_ok hl (by rw [h4]; exact hm), h4]
theorem drop_more {l s post : List UInt8} {p : Nat} (h : l.drop p = s ++ post) : l.drop (p + s.length) = post := by
  rw [← List.drop_drop, h, List.drop_left]
theorem clampN_nat (n : Nat) (h : n ≤ 4294967295) : clampN (n : Int) = n := by unfold clampN; omega
theorem rStr_back {l post : List UInt8} {p : Nat} {s : ByteArray} {most : Int} (h : l.drop p = strB s ++ post) (hs : s.size ≤ 16384) (hm : (s.size : Int) ≤ most) : rStr l p 0 most = (s.data.toList, p + (strB s).length, 0) := by
  have hsl : (strB s).length = 4 + s.size := by rw [strB_length]; omega
  have hl := len_drop h (by intro e; rw [e] at hsl; simp at hsl; omega)
  rw [strB_short s hs, List.append_assoc] at h
  have hc := clampN_nat s.size (by omega)
  have h1 := rNum_back (most := min most 16384) h (by rw [hc]; omega)
  rw [hc] at h1
  have h2 := drop_more h
  rw [numB_length] at h2
  rw [rStr, h1, strOf]
  simp only [ne_eq, not_true_eq_false, if_false, Int.toNat_natCast]
  rw [if_neg (by omega), h2, List.take_left' (by rw [size_list]), hsl, Nat.add_assoc]
theorem steps_back (l : List UInt8) (each : Int) (p : Nat) (ls : List ByteArray) (post : List UInt8) (h : l.drop p = strsB ls ++ post) (hs : ∀ s ∈ ls, s.size ≤ 16384 ∧ (s.size : Int) ≤ each) :
    ∀ j, j ≤ ls.length → steps l each p j = ((ls.take j).map (fun s => s.data.toList), p + (strsB (ls.take j)).length, 0)
  | 0, _ => by simp [steps, strsB]
  | j + 1, hj => by
    have ih := steps_back l each p ls post h hs j (by omega)
    have hsn := strsB_snoc ls j (by omega)
    have hmem := hs ls[j] (List.getElem_mem (by omega))
    have hd : l.drop (p + (strsB (ls.take j)).length) = strB ls[j] ++ (strsB (ls.drop (j + 1)) ++ post) := by
      have e : strsB ls = strsB (ls.take j) ++ (strB ls[j] ++ strsB (ls.drop (j + 1))) := by
        rw [← List.append_assoc, ← hsn]
        unfold strsB
        rw [← List.flatten_append, ← List.map_append, List.take_append_drop]
      rw [e, List.append_assoc] at h
      rw [drop_more h, List.append_assoc]
    have hb := rStr_back hd hmem.1 hmem.2
    rw [steps, ih]
    simp only [ne_eq, not_true_eq_false, if_false, hb]
    rw [hsn, List.length_append, List.take_succ_eq_append_getElem (by omega), List.map_append]
    simp only [List.map_cons, List.map_nil, Nat.add_assoc]
theorem rowB_short (ls : List ByteArray) (h : ls.length ≤ 256) : rowB ls = numB ls.length ++ strsB ls := by
  unfold rowB
  rw [List.take_of_length_le h, show min (ls.length : Int) 256 = ls.length by omega]
theorem rRow_back {l post : List UInt8} {p : Nat} {ls : List ByteArray} {most each : Int} (h : l.drop p = rowB ls ++ post) (h256 : ls.length ≤ 256) (hm : (ls.length : Int) ≤ most) (hs : ∀ s ∈ ls, s.size ≤ 16384 ∧ (s.size : Int) ≤ each) :
    rRow l p 0 most each = (ls.map (fun s => s.data.toList), p + (rowB ls).length, 0) := by
  rw [rowB_short ls h256] at h ⊢
  rw [List.append_assoc] at h
  have hc := clampN_nat ls.length (by omega)
  have h1 := rNum_back (most := min most 256) h (by rw [hc]; omega)
  rw [hc] at h1
  have h2 := drop_more h
  rw [numB_length] at h2
  have h3 := steps_back l each (p + 4) ls post h2 hs ls.length (Nat.le_refl _)
  rw [List.take_length] at h3
  rw [rRow, h1, rowOf]
  simp only [ne_eq, not_true_eq_false, if_false, Int.toNat_natCast, h3]
  rw [List.length_append, numB_length, Nat.add_assoc]
theorem map_toS (ls : List ByteArray) : (ls.map (fun s => s.data.toList)).map toS = ls := by
  rw [List.map_map]
  conv => rhs; rw [← List.map_id ls]
  refine List.map_congr_left fun s _ => ?_
  simp [toS]

theorem rowB_le (ls : List ByteArray) : (rowB ls).length ≤ 4200000 := by
  unfold rowB
  rw [List.length_append, numB_length]
  have h1 := strsB_le (ls.take 256)
  have h2 : (ls.take 256).length ≤ 256 := List.length_take_le _ _
  omega
theorem strB_le (s : ByteArray) : (strB s).length ≤ 16388 := by rw [strB_length]; omega
theorem clampN_in (x : Int) (h0 : 0 ≤ x) (h1 : x ≤ 4294967295) : (clampN x : Int) = x := by unfold clampN; omega
theorem str_eta (s : ByteArray) : (⟨s.data.toList.toArray⟩ : ByteArray) = s := by simp

end Go.Proofs.YteimgnmjmpeobaaDoor
namespace Go.Proofs.YteimgnmjmpeobaaDoor

/-- Bytes that end ahead of the end of what stands at a place. -/
theorem rNum_cut {l : List UInt8} {p : Nat} {most : Int} (h : l.length < p + 4) : rNum l p 0 most = (0, p, 4) := rNum_short h
theorem take_drop' (l : List UInt8) (p cut : Nat) : (l.take cut).drop p = (l.drop p).take (cut - p) := by rw [List.drop_take]
theorem take_of_pre {a b : List UInt8} {k : Nat} (h : a.length ≤ k) : (a ++ b).take k = a ++ b.take (k - a.length) := by
  rw [List.take_append, List.take_of_length_le h]
theorem rNum_pre {l post : List UInt8} {p cut : Nat} {x most : Int} (h : l.drop p = numB x ++ post) (hm : (clampN x : Int) ≤ most) (hc : p + 4 ≤ cut) : rNum (l.take cut) p 0 most = ((clampN x : Int), p + 4, 0) := by
  refine rNum_back (post := post.take (cut - p - 4)) ?_ hm
  rw [take_drop', h, take_of_pre (by rw [numB_length]; omega), numB_length]
theorem rStr_pre {l post : List UInt8} {p cut : Nat} {s : ByteArray} {most : Int} (h : l.drop p = strB s ++ post) (hs : s.size ≤ 16384) (hm : (s.size : Int) ≤ most) (hc : p + (strB s).length ≤ cut) :
    rStr (l.take cut) p 0 most = (s.data.toList, p + (strB s).length, 0) := by
  refine rStr_back (post := post.take (cut - p - (strB s).length)) ?_ hs hm
  rw [take_drop', h, take_of_pre (by omega)]
theorem rStr_cut {l post : List UInt8} {p cut : Nat} {s : ByteArray} {most : Int} (h : l.drop p = strB s ++ post) (hs : s.size ≤ 16384) (hm : (s.size : Int) ≤ most) (hc : cut < p + (strB s).length) :
    rStr (l.take cut) p 0 most = ([], p, 4) := by
  have hsl : (strB s).length = 4 + s.size := by rw [strB_length]; omega
  have htl : (l.take cut).length ≤ cut := by rw [List.length_take]; omega
  have hcl := clampN_nat s.size (by omega)
  by_cases h4 : cut < p + 4
  · rw [rStr, rNum_short (by omega), strOf]
    simp
  · rw [strB_short s hs, List.append_assoc] at h
    have h1 := rNum_pre (cut := cut) (most := min most 16384) h (by rw [hcl]; omega) (by omega)
    rw [hcl] at h1
    rw [rStr, h1, strOf]
    simp only [ne_eq, not_true_eq_false, if_false, Int.toNat_natCast]
    rw [if_pos (by omega)]
theorem strsB_split (ls : List ByteArray) (j : Nat) : strsB ls = strsB (ls.take j) ++ strsB (ls.drop j) := by
  unfold strsB
  rw [← List.flatten_append, ← List.map_append, List.take_append_drop]
theorem first_cut (ls : List ByteArray) (p cut : Nat) (hp : p ≤ cut) : ∀ k, k ≤ ls.length → cut < p + (strsB (ls.take k)).length → ∃ j, j < k ∧ p + (strsB (ls.take j)).length ≤ cut ∧ cut < p + (strsB (ls.take (j + 1))).length
  | 0, _, h => by simp [strsB] at h; omega
  | k + 1, hk, h => by
    by_cases h' : cut < p + (strsB (ls.take k)).length
    · obtain ⟨j, h1, h2, h3⟩ := first_cut ls p cut hp k (by omega) h'
      exact ⟨j, by omega, h2, h3⟩
    · exact ⟨k, by omega, by omega, h⟩
/-- Some string of a row that is cut is not there. -/
theorem steps_cut (l : List UInt8) (each : Int) (p cut : Nat) (ls : List ByteArray) (post : List UInt8) (h : l.drop p = strsB ls ++ post) (hs : ∀ s ∈ ls, s.size ≤ 16384 ∧ (s.size : Int) ≤ each) (hc : cut < p + (strsB ls).length) (hp : p ≤ cut) :
    (steps (l.take cut) each p ls.length).2.2 = 4 := by
  obtain ⟨j, h1, h2, h3⟩ := first_cut ls p cut hp ls.length (Nat.le_refl _) (by rw [List.take_length]; exact hc)
  have hsn := strsB_snoc ls j h1
  have e0 : l.drop p = strsB (ls.take j) ++ (strsB (ls.drop j) ++ post) := by rw [h, strsB_split ls j, List.append_assoc]
  have e1 : (l.take cut).drop p = strsB (ls.take j) ++ (strsB (ls.drop j) ++ post).take (cut - p - (strsB (ls.take j)).length) := by rw [take_drop', e0, take_of_pre (by omega)]
  have s1 := steps_back (l.take cut) each p (ls.take j) _ e1 (fun s hm => hs s (List.mem_of_mem_take hm)) j (by rw [List.length_take]; omega)
  have hmem := hs ls[j] (List.getElem_mem h1)
  have e2 : l.drop (p + (strsB (ls.take j)).length) = strB ls[j] ++ (strsB (ls.drop (j + 1)) ++ post) := by
    rw [strsB_split ls (j + 1), hsn, List.append_assoc, List.append_assoc] at h
    rw [drop_more h]
  have s2 := rStr_cut (cut := cut) (most := each) e2 hmem.1 hmem.2 (by rw [hsn, List.length_append] at h3; omega)
  have e3 : (strsB ((ls.take j).take j)).length = (strsB (ls.take j)).length := by rw [List.take_take, Nat.min_self]
  rw [e3] at s1
  have s3 : (steps (l.take cut) each p (j + 1)).2.2 = 4 := by
    rw [steps, s1]
    simp [s2]
  rw [steps_err _ _ _ (j + 1) (by rw [s3]; decide) ls.length (by omega), s3]
theorem rRow_cut {l post : List UInt8} {p cut : Nat} {ls : List ByteArray} {most each : Int} (h : l.drop p = rowB ls ++ post) (h256 : ls.length ≤ 256) (hm : (ls.length : Int) ≤ most) (hs : ∀ s ∈ ls, s.size ≤ 16384 ∧ (s.size : Int) ≤ each) (hc : cut < p + (rowB ls).length) :
    rRow (l.take cut) p 0 most each = ([], p, 4) := by
  have htl : (l.take cut).length ≤ cut := by rw [List.length_take]; omega
  have hcl := clampN_nat ls.length (by omega)
  by_cases h4 : cut < p + 4
  · rw [rRow, rNum_short (by omega), rowOf]
    simp
  · rw [rowB_short ls h256] at h hc
    rw [List.append_assoc] at h
    have h1 := rNum_pre (cut := cut) (most := min most 256) h (by rw [hcl]; omega) (by omega)
    rw [hcl] at h1
    have h2 := drop_more h
    rw [numB_length] at h2
    rw [List.length_append, numB_length] at hc
    have h3 := steps_cut l each (p + 4) cut ls post h2 hs (by omega) (by omega)
    rw [rRow, h1, rowOf]
    simp only [ne_eq, not_true_eq_false, if_false, Int.toNat_natCast, h3]
    simp
/-- Once there is an error it stays. -/
theorem rStr_bad {l : List UInt8} {p : Nat} {e most : Int} (h : e ≠ 0) : rStr l p e most = ([], p, e) := by simp [rStr, rNum_bad h, strOf, h]
theorem rRow_bad {l : List UInt8} {p : Nat} {e most each : Int} (h : e ≠ 0) : rRow l p e most each = ([], p, e) := by simp [rRow, rNum_bad h, rowOf, h]

/-- A string's first bytes, as many as are written. -/
def trim (s : ByteArray) : ByteArray := toS (cutS 16384 s)
theorem trim_size (s : ByteArray) : (trim s).size = min 16384 s.size := by rw [trim, toS_size, cutS_length]
theorem strB_trim (s : ByteArray) : strB (trim s) = strB s := by
  unfold strB
  rw [trim_size]
  have h : cutS 16384 (trim s) = cutS 16384 s := by
    unfold trim toS cutS
    simp [List.take_take]
  rw [h, show min ((min 16384 s.size : Nat) : Int) 16384 = min (s.size : Int) 16384 by omega]
theorem rowB_trim (ls : List ByteArray) : rowB (ls.map trim) = rowB ls := by
  unfold rowB strsB
  rw [List.length_map, ← List.map_take, List.map_map]
  congr 2
  exact List.map_congr_left fun s _ => strB_trim s

/-- What is written, and cut, is not read whole. -/
theorem cuts_pure (n : Int) (s : ByteArray) (ls : List ByteArray) (cut : Nat) (L : List UInt8) (hL : numB n ++ strB s ++ rowB ls = L) (hs : s.size ≤ 3000) (hl : ls.length ≤ 256) (hc : cut < L.length) (p1 p2 : Nat) (e1 e2 : Int)
    (h1 : (rNum (L.take cut) 0 0 4294967295).2 = (p1, e1)) (h2 : (rStr (L.take cut) p1 e1 16384).2 = (p2, e2)) : (rRow (L.take cut) p2 e2 256 16384).2.2 = 4 := by
  have hLl : L.length = 4 + (strB s).length + (rowB ls).length := by rw [← hL]; simp only [List.length_append, numB_length]
  have htl : (L.take cut).length = cut := by rw [List.length_take]; omega
  have hcn : clampN n ≤ 4294967295 := by unfold clampN; omega
  by_cases c1 : cut < 4
  · rw [rNum_short (by omega)] at h1
    simp only [Prod.mk.injEq] at h1
    obtain ⟨rfl, rfl⟩ := h1
    rw [rStr_bad (by decide)] at h2
    simp only [Prod.mk.injEq] at h2
    obtain ⟨rfl, rfl⟩ := h2
    rw [rRow_bad (by decide)]
  · have d0 : L.drop 0 = numB n ++ (strB s ++ (rowB ls ++ [])) := by rw [List.drop_zero, ← hL]; simp
    have d1 : L.drop 4 = strB s ++ (rowB ls ++ []) := drop_more d0
    have d2 : L.drop (4 + (strB s).length) = rowB (ls.map trim) ++ [] := by rw [rowB_trim]; exact drop_more d1
    rw [rNum_pre d0 (by omega) (by omega)] at h1
    simp only [Prod.mk.injEq] at h1
    obtain ⟨rfl, rfl⟩ := h1
    by_cases c2 : cut < 4 + (strB s).length
    · rw [rStr_cut (p := 4) d1 (by omega) (by omega) c2] at h2
      simp only [Prod.mk.injEq] at h2
      obtain ⟨rfl, rfl⟩ := h2
      rw [rRow_bad (by decide)]
    · rw [rStr_pre (p := 4) d1 (by omega) (by omega) (by omega)] at h2
      simp only [Prod.mk.injEq] at h2
      obtain ⟨rfl, rfl⟩ := h2
      rw [rRow_cut d2 (by simpa using hl) (by simp; omega) ?_ (by rw [rowB_trim]; omega)]
      intro x hx
      obtain ⟨y, _, rfl⟩ := List.mem_map.1 hx
      rw [trim_size]
      omega

end Go.Proofs.YteimgnmjmpeobaaDoor
namespace Go.Proofs.YteimgnmjmpeobaaDoor

theorem take_four (M : List UInt8) (p : Nat) (h : p + 4 ≤ M.length) : M.take (p + 4) = M.take p ++ [M.getD p 0, M.getD (p + 1) 0, M.getD (p + 2) 0, M.getD (p + 3) 0] := by
  have g : ∀ k (hk : k < M.length), M.getD k 0 = M[k] := fun k hk => by simp [List.getD, hk]
  rw [g p (by omega), g (p + 1) (by omega), g (p + 2) (by omega), g (p + 3) (by omega)]
  rw [List.take_succ_eq_append_getElem (by omega), List.take_succ_eq_append_getElem (by omega), List.take_succ_eq_append_getElem (by omega), List.take_succ_eq_append_getElem (by omega)]
  simp only [List.append_assoc, List.cons_append, List.nil_append]
theorem numB_num4 (M : List UInt8) (p : Nat) : numB (num4 M p) = [M.getD p 0, M.getD (p + 1) 0, M.getD (p + 2) 0, M.getD (p + 3) 0] := by
  have h := num4_lt M p
  have hc := clampN_nat (num4 M p) (by omega)
  unfold numB
  rw [hc]
  unfold num4
  generalize M.getD p 0 = a
  generalize M.getD (p + 1) 0 = b
  generalize M.getD (p + 2) 0 = c
  generalize M.getD (p + 3) 0 = d
  have ha := a.toNat_lt
  have hb := b.toNat_lt
  have hc := c.toNat_lt
  have hd := d.toNat_lt
  simp only [List.cons.injEq, and_true, ← UInt8.toNat_inj, UInt8.toNat_ofNat']
  omega
theorem one_num (M : List UInt8) (p : Nat) (e most : Int) (h : (rNum M p e most).2.2 = 0) : e = 0 ∧ M.take p ++ numB (rNum M p e most).1 = M.take (rNum M p e most).2.1 := by
  rcases rNum_cases M p e most with ⟨e', he', hx⟩ | ⟨n, hn1, hn2, hn3, hn4, hn5, hx⟩
  · rw [hx] at h; exact absurd h he'
  · rw [hx]
    refine ⟨hn3, ?_⟩
    simp only
    rw [hn5, numB_num4, take_four M p hn4]
theorem take_add' (M : List UInt8) (p n : Nat) : M.take p ++ (M.drop p).take n = M.take (p + n) := by rw [List.take_add]
theorem one_str (M : List UInt8) (p : Nat) (e most : Int) (h : (rStr M p e most).2.2 = 0) : e = 0 ∧ M.take p ++ strB (toS (rStr M p e most).1) = M.take (rStr M p e most).2.1 := by
  rcases rNum_cases M p e (min most 16384) with ⟨e', he', hx⟩ | ⟨n, hn1, hn2, hn3, hn4, hn5, hx⟩
  · rw [rStr, hx, strOf, if_pos he'] at h
    exact absurd h he'
  · have hx' := hx
    rw [rStr, hx] at h ⊢
    unfold strOf at h ⊢
    simp only [ne_eq, not_true_eq_false, if_false, Int.toNat_natCast] at h ⊢
    by_cases hs : M.length < p + 4 + n
    · rw [if_pos hs] at h; simp at h
    · rw [if_neg hs] at h ⊢
      refine ⟨hn3, ?_⟩
      simp only
      have hl : ((M.drop (p + 4)).take n).length = n := by rw [List.length_take, List.length_drop]; omega
      have hb : strB (toS ((M.drop (p + 4)).take n)) = numB n ++ (M.drop (p + 4)).take n := by
        rw [strB_short _ (by rw [toS_size]; omega), toS_size, hl]
        rfl
      have h1 := one_num M p e (min most 16384) (by rw [hx'])
      rw [hx'] at h1
      rw [hb, ← List.append_assoc, h1.2, take_add']
theorem one_steps (M : List UInt8) (each : Int) (p : Nat) : ∀ j, (steps M each p j).2.2 = 0 → (steps M each p j).1.length = j ∧ M.take p ++ strsB ((steps M each p j).1.map toS) = M.take (steps M each p j).2.1
  | 0, _ => by simp [steps, strsB]
  | j + 1, h => by
    by_cases h0 : (steps M each p j).2.2 = 0
    · have ih := one_steps M each p j h0
      rw [steps, if_neg (by rw [h0]; simp)] at h ⊢
      by_cases h1 : (rStr M (steps M each p j).2.1 0 each).2.2 = 0
      · rw [if_neg (by rw [h1]; simp)] at h ⊢
        refine ⟨by simp [ih.1], ?_⟩
        have h2 := one_str M _ 0 each h1
        simp only
        rw [← h2.2, ← ih.2, List.append_assoc]
        congr 1
        simp [strsB]
      · rw [if_pos h1] at h
        exact absurd h h1
    · rw [steps, if_pos h0] at h
      exact absurd h h0
theorem one_row (M : List UInt8) (p : Nat) (e most each : Int) (h : (rRow M p e most each).2.2 = 0) : e = 0 ∧ M.take p ++ rowB ((rRow M p e most each).1.map toS) = M.take (rRow M p e most each).2.1 := by
  rcases rNum_cases M p e (min most 256) with ⟨e', he', hx⟩ | ⟨n, hn1, hn2, hn3, hn4, hn5, hx⟩
  · rw [rRow, hx, rowOf, if_pos he'] at h
    exact absurd h he'
  · have hx' := hx
    rw [rRow, hx] at h ⊢
    unfold rowOf at h ⊢
    simp only [ne_eq, not_true_eq_false, if_false, Int.toNat_natCast] at h ⊢
    by_cases hs : (steps M each (p + 4) n).2.2 = 0
    · rw [if_neg (by rw [hs]; simp)] at h ⊢
      refine ⟨hn3, ?_⟩
      have h2 := one_steps M each (p + 4) n hs
      have h1 := one_num M p e (min most 256) (by rw [hx'])
      rw [hx'] at h1
      rw [rowB_short _ (by rw [List.length_map, h2.1]; omega), List.length_map, h2.1, ← List.append_assoc, h1.2, h2.2]
    · rw [if_pos hs] at h
      exact absurd h hs
theorem rStr_small (l : List UInt8) (p : Nat) (e most : Int) : (rStr l p e most).1.length ≤ l.length := by
  unfold rStr strOf
  split
  · simp
  · split
    · simp
    · simp only [List.length_take, List.length_drop]; omega
theorem steps_small (l : List UInt8) (each : Int) (p : Nat) : ∀ j, ∀ x ∈ (steps l each p j).1, x.length ≤ l.length
  | 0, x, hx => by simp [steps] at hx
  | j + 1, x, hx => by
    rw [steps] at hx
    split at hx
    · exact steps_small l each p j x hx
    · split at hx
      · simp at hx
      · simp only [List.mem_append, List.mem_singleton] at hx
        rcases hx with hx | rfl
        · exact steps_small l each p j x hx
        · exact rStr_small _ _ _ _
theorem rRow_small (l : List UInt8) (p : Nat) (e most each : Int) : ∀ s ∈ (rRow l p e most each).1.map toS, s.size ≤ l.length := by
  intro s hs
  obtain ⟨x, hx, rfl⟩ := List.mem_map.1 hs
  rw [toS_size]
  unfold rRow rowOf at hx
  split at hx
  · simp at hx
  · split at hx
    · simp at hx
    · exact steps_small _ _ _ _ _ hx

end Go.Proofs.YteimgnmjmpeobaaDoor
namespace Go.Proofs.YteimgnmjmpeobaaDoor
open Go.RowKit

theorem own_empty (w : World) (e : TypeId) : (w.alloc (.cells #[] e)).ownsRow w.heap.size e 1 (.slice (some ⟨w.heap.size, 0, none⟩) 0 0) 0 [] :=
  World.ownsRow_made w #[] 0 (Nat.le_refl _) (by unfold maxLen; omega) rfl

end Go.Proofs.YteimgnmjmpeobaaDoor
