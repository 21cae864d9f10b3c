/- slices.Insert of one number. -/
import Derived.Test.YtdejhpinmkbngaaVb
import Derived.Test.YtdejhpinmkbngaaCp
import Derived.Lib.AppendZerosOnto
import Derived.Lib.Overlaps
namespace Go.Proofs.Ytdejhpinmkbngaa
open Go.RowKit

theorem Try.infoI : (Try.prog.info? 3).map (fun i => (i.zero, i.size, i.bytes)) = some (some (.int .i64 0), 1, 8) := by kernel_rfl
theorem app_types (s x : Value) (ty : TypeId) (w : World) : (Builtin.append_ #[51, 42] ty #[s, x]).run Try.prog w = (Builtin.append_ #[42, 42] ty #[s, x]).run Try.prog w := by
  simp [Builtin.append_, run_underlying Try.underlying51, run_underlying Try.underlying42]

/-- append of one at the end. -/
theorem app_int {w : World} {v : Value} {h : List Int} (hr : w.ownsRow 0 3 1 v h.length (intV h)) (hn : h.length ≤ 100000) (ty : TypeId) (k : Nat) (x : Int) (hk : Blk w k [.int .i64 x] 3) :
    ∃ v' w', Hid ((Builtin.append_ #[51, 42] ty #[v, .slice (some ⟨k, 0, none⟩) 1 1]).run Try.prog w = .ok v' w') ∧ w'.ownsRow 0 3 1 v' (h.length + 1) (intV (h ++ [x])) ∧ w.grownBy w' v.ownBlock ∧
      (v'.ownBlock = v.ownBlock ∨ v'.ownBlock = some w.heap.size) := by
  obtain ⟨i, hi, hz0, hz1, hz2⟩ := info_parts Try.infoI
  obtain ⟨v', w', h1, h2, h3, _, h5⟩ := run_append_own_at w 0 42 ty 3 i (.int .i64 0) 1 8 Try.underlying42 hi hz0 hz1 hz2 rfl (by decide) v h.length (intV h) hr ⟨k, 0, none⟩ 1 1 [.int .i64 x] rfl
    (fun j u hu => by
      rw [Addr.add_lit, hk.cell, Nat.zero_add]
      exact hu) (by simp; rfl) (by unfold maxLen; omega) (by omega) (Nat.zero_le _)
  refine ⟨v', w', by show _ = _; rw [app_types]; exact h1, by rw [intV_append]; exact h2, h3, h5⟩

/-- copy of cells onto a block that is known whole. -/
theorem copy_int {w : World} {g o dLen dCap : Nat} {cs : List Value} (hB : Blk w g cs 3) (t t' : TypeId) (ht : Try.prog.underlying t = some (.slice 3)) (a : Addr) (sLen sCap : Nat) (news : List Value) (hl : news.length = Nat.min sLen dLen) (hfit : o + news.length ≤ cs.length)
    (hsrc : ∀ j v, news[j]? = some v → w.cell? (a.add j) = some v) (h1 : ∀ v ∈ news, v.oneCell' = true) :
    ∃ v w', Hid (∀ ty, (Builtin.copy_ #[t, t'] ty #[.slice (some ⟨g, o, none⟩) dLen dCap, .slice (some a) sLen sCap]).run Try.prog w = .ok v w') ∧
      Blk w' g (cs.take o ++ news ++ cs.drop (o + news.length)) 3 ∧ (∀ k cs' t, k ≠ g → Blk w k cs' t → Blk w' k cs' t) ∧ w.grownBy w' (some g) := by
  obtain ⟨i, hi, hz0, hz1, hz2⟩ := info_parts Try.infoI
  have hst := run_storeCells_at Try.prog g o 3 news 0 cs.toArray w hB (by simpa using hfit) h1
  have hld := run_firstCells_some (P := Try.prog) w i.size (Nat.min sLen dLen) a sLen sCap news (by rw [hz1, Nat.mul_one]; exact hl) hsrc
  simp only [Nat.add_zero] at hst
  refine ⟨goInt (Nat.min sLen dLen : Nat), w.setRow g (cs.take o ++ news ++ cs.drop (o + news.length)).toArray, fun ty => ?_, hB.row, fun _ _ _ hne hk => hk.rowOther hne _, ?_⟩
  · simp [Builtin.copy_, run_underlying ht, Builtin.lenOf, sizeOf, typeInfo, hi]
    rw [hld]
    simp [Result.andThen, hst]
  · exact ⟨rfl, rfl, rfl, by simp [World.setRow], fun k _ hne => setRow_other w g k _ (fun e => hne (by rw [e]))⟩

theorem own_split {w : World} {v : Value} {n : Nat} {h : List Int} (hr : w.ownsRow 0 3 1 v n (intV h)) :
    (v = .slice none 0 0 ∧ n = 0) ∨ ∃ g c r, v = .slice (some ⟨g, 0, none⟩) n c ∧ Blk w g (intV h ++ r) 3 ∧ n + r.length = c ∧ c ≤ maxLen := by
  obtain ⟨hl, h1 | ⟨g, cap, cur, h1, _, h3, h4, h5, h6, h7⟩⟩ := hr
  · exact .inl h1
  · rw [Nat.mul_one] at hl h6 h7
    refine .inr ⟨g, cap, cur.toList.drop n, h1, ?_, ?_, h5⟩
    · unfold Blk
      rw [← h7, List.take_append_drop]
      exact h3
    · rw [List.length_drop, Array.length_toList]
      omega
theorem own_join {w : World} {g n c : Nat} {h : List Int} {r : List Value} (hB : Blk w g (intV h ++ r) 3) (hl : h.length = n) (hc : n + r.length = c) (hm : c ≤ maxLen) : w.ownsRow 0 3 1 (.slice (some ⟨g, 0, none⟩) n c) n (intV h) := by
  refine ⟨by rw [intV_length]; omega, .inr ⟨g, c, (intV h ++ r).toArray, rfl, Nat.zero_le _, hB, by omega, hm, ?_, ?_⟩⟩
  · simp [intV_length]; omega
  · simp only [Nat.mul_one]
    exact List.take_left' (by rw [intV_length]; exact hl)

/-- append of zeroes where there is no room. -/
theorem app_zero {w : World} {g n i : Nat} {h : List Int} (hB : Blk w g (intV h) 3) (hl : h.length = n) (hn : n ≤ 100000) (hi : i < n) (ty : TypeId) :
    ∃ c' w', n + 1 ≤ c' ∧ c' ≤ maxLen ∧ Hid ((Builtin.append_ #[51, 3] ty #[.slice (some ⟨g, 0, none⟩) i n, .int .i64 ((n : Int) + 1 - i)]).run Try.prog w = .ok (.slice (some ⟨w.heap.size, 0, none⟩) (n + 1) c') w') ∧
      (∃ r, Blk w' w.heap.size (intV (h.take i) ++ r) 3 ∧ r.length = c' - i) ∧ Below w.heap.size w w' := by
  obtain ⟨inf, hinf, hz0, hz1, hz2⟩ := info_parts Try.infoI
  have hold : (Builtin.firstCells inf.size i (.slice (some ⟨g, 0, none⟩) i n)).run Try.prog w.drew = .ok (intV (h.take i)).toArray w.drew := run_firstCells_some w.drew inf.size i _ i n (intV (h.take i)) (by rw [hz1, intV_length, List.length_take, hl]; omega) (hB.drew.read 0 (intV (h.take i)) (fun j u hu => by
    rw [Nat.zero_add]
    rw [intV_take, List.getElem?_take] at hu
    split at hu
    · exact hu
    · cases hu))
  have hfit : Builtin.nextslicecap (i + (n + 1 - i)) n * inf.bytes ≤ 281474976710656 := by
    rw [hz2]
    exact growslice_fits (by omega) (by omega)
  have hrun := Lib.run_append_grow_zeros w 51 3 ty 3 inf _ .i64 .i64 Try.underlying51 Try.underlying3 hinf hz0 (some ⟨g, 0, none⟩) i n (intV (h.take i)) hold (n + 1 - i) (by omega) (by omega) (by omega) (by omega) (by rw [hz2]; omega) hfit
  have e : i + (n + 1 - i) = n + 1 := by omega
  rw [e] at hrun
  have e2 : ((n : Int) + 1 - i) = ((n + 1 - i : Nat) : Int) := by omega
  have hge := grownCap_ge w (n + 1) n 3
  refine ⟨grownCap w (n + 1) n 3, _, hge, grownCap_le_maxLen w _ _ _ (by unfold maxLen; omega), by show _ = _; rw [e2]; exact hrun, ⟨(Builtin.zeroCells (Value.int .i64 0).cells (n + 1 - i)).toList ++ (Builtin.zeroCells (Value.int .i64 0).cells (grownCap w (n + 1) n 3 - (n + 1))).toList, ?_, ?_⟩, (Below.refl _ _).drew.alloc (Nat.le_refl _) _⟩
  · have := Blk.new w.drew (intV (h.take i) ++ ((Builtin.zeroCells (Value.int .i64 0).cells (n + 1 - i)).toList ++ (Builtin.zeroCells (Value.int .i64 0).cells (grownCap w (n + 1) n 3 - (n + 1))).toList)) 3
    rw [show (intV (h.take i) ++ ((Builtin.zeroCells (Value.int .i64 0).cells (n + 1 - i)).toList ++ (Builtin.zeroCells (Value.int .i64 0).cells (grownCap w (n + 1) n 3 - (n + 1))).toList)).toArray = (intV (h.take i)).toArray ++ Builtin.zeroCells (Value.int .i64 0).cells (n + 1 - i) ++ Builtin.zeroCells (Value.int .i64 0).cells (grownCap w (n + 1) n 3 - (n + 1)) by simp] at this
    exact this
  · have z : ∀ m, (Builtin.zeroCells (Value.int .i64 0).cells m).toList.length = m := fun m => by
      rw [Array.length_toList]
      simp [Builtin.zeroCells, Value.cells]
    rw [List.length_append, z, z]
    omega
end Go.Proofs.Ytdejhpinmkbngaa
