/- Worlds that have turned in some blocks alone; strings.Clone; append of one; blocks apart. -/
import Derived.Test.YtnkkjedckehoaaaDoorBlk
import Derived.Test.YtnkkjedckehoaaaDoorShelf
import Derived.Maps.OwnSet
import Derived.Maps.AppendAt
import Derived.Handy
import Derived.Deep.QuietTactic
import Derived.BigQuiet
import Derived.Deep.RegionHeld3
namespace Go.Proofs.YtnkkjedckehoaaaDoor
open Go.RowKit Go.Maps

/-! ### A world that has turned in some blocks alone -/
/-- Of what was there, only the blocks F may have turned. -/
structure Fr (F : Nat → Prop) (w w' : World) : Prop where
  os : w'.os = w.os
  tape : w'.tape = w.tape
  output : w'.output = w.output
  size : w.heap.size ≤ w'.heap.size
  block : ∀ k, k < w.heap.size → ¬ F k → w'.heap[k]? = w.heap[k]?
section
variable {F G : Nat → Prop} {a b c : World}
theorem Fr.refl (F : Nat → Prop) (w : World) : Fr F w w := ⟨rfl, rfl, rfl, Nat.le_refl _, fun _ _ _ => rfl⟩
theorem Fr.of_below (F : Nat → Prop) (h : Below a.heap.size a b) : Fr F a b := ⟨h.os, h.tape, h.output, h.size, fun k hk _ => h.block k hk⟩
theorem Fr.of_grown {row : Option Nat} (h : a.grownBy b row) (hr : ∀ k, row = some k → F k) : Fr F a b :=
  ⟨h.os, h.tape, h.output, h.size, fun k hk hn => h.block k hk (fun e => hn (hr k e.symm))⟩
theorem Fr.trans (h : Fr F a b) (k : Fr G b c) (hG : ∀ i, G i → F i ∨ a.heap.size ≤ i) : Fr F a c :=
  ⟨k.os.trans h.os, k.tape.trans h.tape, k.output.trans h.output, Nat.le_trans h.size k.size, fun i hi hn =>
    (k.block i (Nat.lt_of_lt_of_le hi h.size) (fun g => (hG i g).elim hn (by omega))).trans (h.block i hi hn)⟩
theorem Fr.to_below {B : Nat} (h : Fr F a b) (hF : ∀ i, F i → B ≤ i) (hB : B ≤ a.heap.size) : Below B a b :=
  ⟨h.os, h.tape, h.output, h.size, fun k hk => h.block k (by omega) (fun f => by have := hF k f; omega)⟩
end

theorem clone_any (s : ByteArray) (w : World) (hs : s.size ≤ 281474976710656) : Calls Tryd.prog 34 #[.string s] w fun e w' => e = .returned (.string s) ∧ Below w.heap.size w w' := by
  go_enter Tryd.func34, Tryd.ntmps34
  go_wp2_with fail
  refine (Tryd.stringslite_Clone s w hs).mono ?_
  rintro e w1 ⟨rfl, b1⟩
  go_wp2
  go_ret
  exact ⟨rfl, b1⟩

/-- append of one element of one cell, for the walk: where the new slice lies. -/
theorem wpApp1 {P : Program} (w : World) {ops : Array Oper} {rest : List Oper} {o : Oper} {a : Act} {Q : Exit → Act → World → Prop} (hgd : o.guard = none) (s x : Operand) (t : TypeId)
    (ho : o.op = .call { callee := .builtin .append, args := #[s, x], argTypes := #[t, t] })
    (base : Nat) (e : TypeId) (z : Value) (bytes : Nat) (ht : P.underlying t = some (.slice e)) (hinf : (P.info? e).map (fun i => (i.zero, i.size, i.bytes)) = some (some z, 1, bytes)) (hz : z.cells.size = 1)
    (A : Option Addr) (n c : Nat) (xs : List Value) (hs : a.eval s = .slice A n c) (hown : w.ownsRow base e 1 (.slice A n c) n xs)
    (ad : Addr) (u : Value) (hx : a.eval x = .slice (some ad) 1 1) (hu : w.cell? ad = some u) (h1 : u.oneCell' = true) (hbytes : (n + 1) * bytes ≤ 140737488355328) (hbase : base ≤ w.heap.size) (h63 : n + 1 ≤ maxLen)
    (h : ∀ A' c' w', w'.ownsRow base e 1 (.slice A' (n + 1) c') (n + 1) (xs ++ [u]) → w.grownBy w' (Value.slice A n c).ownBlock → ((Value.slice A' (n + 1) c').ownBlock = (Value.slice A n c).ownBlock ∨ (Value.slice A' (n + 1) c').ownBlock = some w.heap.size) →
      wpList P ops Q rest (a.put o.dst (.slice A' (n + 1) c')) w') : wpList P ops Q (o :: rest) a w := by
  obtain ⟨i, hi, hz0, hz1, hz2⟩ := info_parts hinf
  refine wpList_append_own_at w hgd s x t ho base e i z 1 bytes ht hi hz0 hz1 hz2 hz (by decide) _ n xs hs hown ad 1 1 [u] hx rfl ?_ (by simpa using h1) h63 hbytes hbase ?_
  · intro j v hv
    match j, hv with
    | 0, hv =>
      simp at hv
      subst hv
      simpa [Addr.add] using hu
  · intro v' w' h2 h3 _ h5
    obtain ⟨_, A', c', rfl, _⟩ := own_form h2
    exact h A' c' w' h2 h3 h5

theorem row_type {w : World} {A : Option Addr} {n c : Nat} {xs : List Value} {g : Nat} {cs : List Value} {t : TypeId} {e : TypeId} (hr : w.ownsRow 0 e 1 (.slice A n c) n xs) (hB : Blk w g cs t) (hne : t ≠ e) : (Value.slice A n c).ownBlock ≠ some g := by
  intro h
  rcases hr.2 with ⟨h1, _⟩ | ⟨g', cap, cur, h1, _, h2, _⟩
  · rw [h1] at h
    simp [Value.ownBlock] at h
  · rw [h1] at h
    simp [Value.ownBlock] at h
    subst h
    unfold Blk at hB
    rw [hB] at h2
    injection h2 with h2
    injection h2 with _ h2 _
    exact hne h2
theorem row_map {w : World} {A : Option Addr} {n c : Nat} {xs : List Value} {bm : Nat} {e : TypeId} {m : Nat} {D : DataW Unit} {t : TypeId} {R : Value → Option (DataW Unit × List MemPlace)} (hr : w.ownsRow 0 e 1 (.slice A n c) n xs) (hm : w.ownsMap Tryd.prog t R bm m D) : (Value.slice A n c).ownBlock ≠ some bm := by
  intro h
  obtain ⟨es, clock, hb, _⟩ := hm
  rcases hr.2 with ⟨h1, _⟩ | ⟨g', cap, cur, h1, _, h2, _⟩
  · rw [h1] at h
    simp [Value.ownBlock] at h
  · rw [h1] at h
    simp [Value.ownBlock] at h
    subst h
    rw [hb] at h2
    injection h2 with h2
    cases h2
theorem blk_map {w : World} {g bm : Nat} {cs : List Value} {t t' : TypeId} {m : Nat} {D : DataW Unit} {R : Value → Option (DataW Unit × List MemPlace)} (hB : Blk w g cs t) (hm : w.ownsMap Tryd.prog t' R bm m D) : bm ≠ g := by
  rintro rfl
  obtain ⟨es, clock, hb, _⟩ := hm
  unfold Blk at hB
  rw [hb] at hB
  injection hB with hB
  cases hB
theorem Blk.grown {w w' : World} {g : Nat} {cs : List Value} {t : TypeId} {row : Option Nat} (h : Blk w g cs t) (hg : w.grownBy w' row) (hne : row ≠ some g) : Blk w' g cs t := by
  unfold Blk
  rw [hg.block g h.lt (fun e => hne e.symm)]
  exact h
end Go.Proofs.YtnkkjedckehoaaaDoor
