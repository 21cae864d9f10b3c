/- Laws on slices of files: append, copy, clear over a block that is known whole. -/
import Derived.Test.YtblfpmlnpaibkaaDoorTf
import Derived.Deep.AppendSrc
import Derived.Lib.AppendZeros
import Derived.Laws.CopyRow
import Derived.Laws.CopyOwn
namespace Go.Proofs.YtblfpmlnpaibkaaDoor
open Go.RowKit

abbrev zS : Value := .string ⟨#[]⟩
theorem Tryd.infoF : (Tryd.prog.info? 33).map (fun i => (i.zero, i.size, i.bytes)) = some (some (.agg #[zS, zS]), 2, 32) := by kernel_rfl
theorem zero_two (n : Nat) : Builtin.zeroCells (Value.agg #[zS, zS]).cells n = (List.replicate (n * 2) zS).toArray := made_two zS (n * 2)
theorem Blk.row {w : World} {g : Nat} {cs cs' : List Value} {t : TypeId} (h : Blk w g cs t) : Blk (w.setRow g cs'.toArray) g cs' t := setRow_heap w g cs.toArray cs'.toArray t (0, 0) h
theorem Blk.rowOther {w : World} {g k : Nat} {cs : List Value} {t : TypeId} (h : Blk w k cs t) (hne : k ≠ g) (x : Array Value) : Blk (w.setRow g x) k cs t := by
  unfold Blk
  rw [setRow_other w g k x hne]
  exact h
theorem Blk.drew {w : World} {g : Nat} {cs : List Value} {t : TypeId} (h : Blk w g cs t) : Blk w.drew g cs t := h
theorem Blk.drewN {w : World} {g : Nat} {cs : List Value} {t : TypeId} (h : Blk w g cs t) (n : Nat) : Blk (w.drewN n) g cs t := h
theorem Blk.read {w : World} {g : Nat} {cs : List Value} {t : TypeId} (h : Blk w g cs t) (o : Nat) (xs : List Value) (hx : ∀ j u, xs[j]? = some u → cs[o + j]? = some u) : ∀ j u, xs[j]? = some u → w.cell? ((⟨g, o, none⟩ : Addr).add j) = some u := by
  intro j u hu
  rw [Addr.add_lit, h.cell]
  exact hx j u hu

/-- append of one more where there is no room. -/
theorem app_end {w : World} {g n : Nat} {fs : List Fil} (hB : Blk w g (filV fs) 33) (hl : fs.length = n) (hn : n ≤ 1000) (ty : TypeId) (k : Nat) (a b : Value) (hk : Blk w k [a, b] 33) (ha : a.oneCell' = true) (hb : b.oneCell' = true) :
    ∃ c', n + 1 ≤ c' ∧ c' ≤ maxLen ∧ (Builtin.append_ #[22, 22] ty #[.slice (some ⟨g, 0, none⟩) n n, .slice (some ⟨k, 0, none⟩) 1 1]).run Tryd.prog w =
      .ok (.slice (some ⟨w.heap.size, 0, none⟩) (n + 1) c') (w.drew.alloc (.cells (filV fs ++ [a, b] ++ List.replicate ((c' - (n + 1)) * 2) zS).toArray 33)) := by
  obtain ⟨i, hi, hz0, hz1, hz2⟩ := info_parts Tryd.infoF
  have hs : Src Tryd.prog i.size 22 (.slice (some ⟨k, 0, none⟩) 1 1) 1 [a, b] w := Src.ofSlice w Tryd.underlying22 _ 1 1 [a, b] (by rw [hz1]; rfl) (hk.read 0 [a, b] (fun j u hu => by rw [Nat.zero_add]; exact hu)) (by simp [ha, hb])
  have hold : (Builtin.firstCells i.size n (.slice (some ⟨g, 0, none⟩) n n)).run Tryd.prog w.drew = .ok (filV fs).toArray w.drew := run_firstCells_some w.drew i.size n _ n n (filV fs) (by rw [hz1, filV_length, hl]) (hB.drew.read 0 (filV fs) (fun j u hu => by rw [Nat.zero_add]; exact hu))
  have hfit : Builtin.nextslicecap (n + 1) n * i.bytes ≤ 281474976710656 := by
    rw [hz2]
    exact growslice_fits (by omega) (by omega)
  refine ⟨grownCap w (n + 1) n 33, grownCap_ge w _ _ _, grownCap_le_maxLen w _ _ _ (by unfold maxLen; omega), ?_⟩
  rw [run_append_grow_src w _ _ ty 33 i _ Tryd.underlying22 hi hz0 (some ⟨g, 0, none⟩) n n (filV fs) hold _ 1 [a, b] hs (by omega) (by omega) hfit, zero_two]
  have e : (filV fs ++ [a, b] ++ List.replicate ((grownCap w (n + 1) n 33 - (n + 1)) * 2) zS).toArray = (filV fs ++ [a, b]).toArray ++ (List.replicate ((grownCap w (n + 1) n 33 - (n + 1)) * 2) zS).toArray := by
    apply Array.ext'
    simp
  rw [e]

/-- append of zero values where there is no room. -/
theorem app_zeros {w : World} {g n i : Nat} {fs : List Fil} (hB : Blk w g (filV fs) 33) (hl : fs.length = n) (hn : n ≤ 1000) (hi : i < n) (ty : TypeId) (z : Int) (hz : z = (n : Int) + 1 - i) :
    ∃ c', n + 1 ≤ c' ∧ c' ≤ maxLen ∧ (Builtin.append_ #[22, 3] ty #[.slice (some ⟨g, 0, none⟩) i n, .int .i64 z]).run Tryd.prog w =
      .ok (.slice (some ⟨w.heap.size, 0, none⟩) (n + 1) c') (w.drew.alloc (.cells (filV (fs.take i) ++ List.replicate ((c' - i) * 2) zS).toArray 33)) := by
  obtain ⟨inf, hinf, hz0, hz1, hz2⟩ := info_parts Tryd.infoF
  subst hz
  have e : ((n : Int) + 1 - i) = ((n + 1 - i : Nat) : Int) := by omega
  rw [e]
  have hold : (Builtin.firstCells inf.size i (.slice (some ⟨g, 0, none⟩) i n)).run Tryd.prog w.drew = .ok (filV (fs.take i)).toArray w.drew := run_firstCells_some w.drew inf.size i _ i n (filV (fs.take i)) (by rw [hz1, filV_length, List.length_take, hl]; omega) (hB.drew.read 0 (filV (fs.take i)) (fun j u hu => by
    rw [Nat.zero_add]
    rw [filV_take, List.getElem?_take] at hu
    split at hu
    · exact hu
    · cases hu))
  have hfit : Builtin.nextslicecap (n + 1) n * inf.bytes ≤ 281474976710656 := by
    rw [hz2]
    exact growslice_fits (by omega) (by omega)
  refine ⟨grownCap w (n + 1) n 33, grownCap_ge w _ _ _, grownCap_le_maxLen w _ _ _ (by unfold maxLen; omega), ?_⟩
  have hge := grownCap_ge w (n + 1) n 33
  have hw : IntKind.i64.wrap ((n + 1 - i : Nat) : Int) = ((n + 1 - i : Nat) : Int) := by rw [IntKind.wrap_i64]; omega
  have need : i + (n + 1 - i) = n + 1 := by omega
  have hroom : ¬ n + 1 ≤ n := by omega
  have h48' : ¬ (281474976710656 < Builtin.nextslicecap (n + 1) n * inf.bytes) := by omega
  have h48i : ¬ (281474976710656 < ((n + 1 - i : Nat) : Int) * (inf.bytes : Int)) := by rw [hz2]; omega
  have hneg : ¬ (((n + 1 - i : Nat) : Int) < 0) := by omega
  have hns : ¬ ((n + 1 - i) * inf.size = 0) := by rw [hz1]; omega
  have hzc : Builtin.zeroCells (Value.agg #[zS, zS]).cells (n + 1 - i) ++ Builtin.zeroCells (Value.agg #[zS, zS]).cells (grownCap w (n + 1) n 33 - (n + 1)) = (List.replicate ((grownCap w (n + 1) n 33 - i) * 2) zS).toArray := by
    rw [zero_two, zero_two, show (grownCap w (n + 1) n 33 - i) * 2 = (n + 1 - i) * 2 + (grownCap w (n + 1) n 33 - (n + 1)) * 2 by omega]
    apply Array.ext'
    simp
  have e2 : (filV (fs.take i) ++ List.replicate ((grownCap w (n + 1) n 33 - i) * 2) zS).toArray = (filV (fs.take i)).toArray ++ (Builtin.zeroCells (Value.agg #[zS, zS]).cells (n + 1 - i) ++ Builtin.zeroCells (Value.agg #[zS, zS]).cells (grownCap w (n + 1) n 33 - (n + 1))) := by
    rw [hzc]; simp
  rw [e2, ← Array.append_assoc]
  generalize (n + 1 - i : Nat) = m at *
  have h63' : ¬ (9223372036854775807 < (i : Int) + (m : Int)) := by omega
  simp [Builtin.append_, run_underlying Tryd.underlying22, run_underlying Tryd.underlying3, sizeOf, typeInfo, zeroValue, hinf, hz0, asInt, asIntOf, hw, hneg, hns, need, hroom, h63', h48', h48i, Question.forced, hold, newRow, grownCap]

/-- copy of cells onto a block that is known whole. -/
theorem copy_blk {w : World} {g o dLen dCap : Nat} {cs : List Value} (hB : Blk w g cs 33) (ty : TypeId) (a : Addr) (sLen sCap : Nat) (news : List Value) (hl : news.length = Nat.min sLen dLen * 2) (hfit : o + news.length ≤ cs.length)
    (hsrc : ∀ j v, news[j]? = some v → w.cell? (a.add j) = some v) (h1 : ∀ v ∈ news, v.oneCell' = true) :
    (Builtin.copy_ #[22, 22] ty #[.slice (some ⟨g, o, none⟩) dLen dCap, .slice (some a) sLen sCap]).run Tryd.prog w =
      .ok (goInt (Nat.min sLen dLen : Nat)) (w.setRow g (cs.take o ++ news ++ cs.drop (o + news.length)).toArray) := by
  obtain ⟨i, hi, hz0, hz1, hz2⟩ := info_parts Tryd.infoF
  have hst := run_storeCells_at Tryd.prog g o 33 news 0 cs.toArray w hB (by simpa using hfit) h1
  have hld := run_firstCells_some (P := Tryd.prog) w i.size (Nat.min sLen dLen) a sLen sCap news (by rw [hz1]; exact hl) hsrc
  simp only [Nat.add_zero] at hst
  simp [Builtin.copy_, run_underlying Tryd.underlying22, Builtin.lenOf, sizeOf, typeInfo, hi]
  rw [hld]
  simp [Result.andThen, hst]
/-- append where there is room. -/
theorem app_room {w : World} {g : Nat} {cs : List Value} (hB : Blk w g cs 33) (ty : TypeId) (sLen sCap : Nat) (a : Addr) (m d : Nat) (news : List Value) (hl : news.length = m * 2) (hroom : sLen + m ≤ sCap) (hfit : sLen * 2 + news.length ≤ cs.length)
    (hsrc : ∀ j v, news[j]? = some v → w.cell? (a.add j) = some v) (h1 : ∀ v ∈ news, v.oneCell' = true) :
    (Builtin.append_ #[22, 22] ty #[.slice (some ⟨g, 0, none⟩) sLen sCap, .slice (some a) m d]).run Tryd.prog w =
      .ok (.slice (some ⟨g, 0, none⟩) (sLen + m) sCap) (w.setRow g (cs.take (sLen * 2) ++ news ++ cs.drop (sLen * 2 + news.length)).toArray) := by
  obtain ⟨i, hi, hz0, hz1, hz2⟩ := info_parts Tryd.infoF
  have hst := run_storeCells_at Tryd.prog g (sLen * 2) 33 news 0 cs.toArray w hB (by simpa using hfit) h1
  have hld := run_firstCells_some (P := Tryd.prog) w i.size m a m d news (by rw [hz1]; exact hl) hsrc
  rw [hz1] at hld
  simp only [Nat.add_zero] at hst
  simp [Builtin.append_, run_underlying Tryd.underlying22, sizeOf, typeInfo, hi, Builtin.lenOf, hroom, hz1, hld, Addr.add_lit, hst]

/-- clear of one file. -/
theorem clear_one {w : World} {g : Nat} {cs : List Value} (hB : Blk w g cs 33) (ty : TypeId) (o c : Nat) (hfit : o + 2 ≤ cs.length) :
    (Builtin.clear_ #[22] ty #[.slice (some ⟨g, o, none⟩) 1 c]).run Tryd.prog w = .ok (.tuple #[]) (w.setRow g (cs.take o ++ [zS, zS] ++ cs.drop (o + 2)).toArray) := by
  obtain ⟨i, hi, hz0, hz1, hz2⟩ := info_parts Tryd.infoF
  have hst := run_storeCells_at Tryd.prog g o 33 [zS, zS] 0 cs.toArray w hB (by simpa using hfit) (by simp; rfl)
  simp only [Nat.add_zero] at hst
  have hz : Builtin.zeroCells (Value.agg #[zS, zS]).cells 1 = #[zS, zS] := zero_two 1
  simp [Builtin.clear_, run_underlying Tryd.underlying22, zeroValue, typeInfo, hi, hz0]
  rw [hz, show (#[zS, zS] : Array Value).toList = [zS, zS] from rfl, hst]
  simp [Result.andThen]
end Go.Proofs.YtblfpmlnpaibkaaDoor
