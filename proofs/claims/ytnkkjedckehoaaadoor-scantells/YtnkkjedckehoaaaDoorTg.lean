/- Laws on slices of files: append, copy, clear over a block that is known whole. -/
import Derived.Test.YtnkkjedckehoaaaDoorTf
import Derived.Test.YtnkkjedckehoaaaDoorCp
import Derived.Deep.AppendSrc
import Derived.Lib.AppendZeros
import Derived.Laws.CopyRow
import Derived.Laws.CopyOwn
namespace Go.Proofs.YtnkkjedckehoaaaDoor
open Go.RowKit

abbrev zS : Value := .string ⟨#[]⟩
theorem Tryd.infoF : (Tryd.prog.info? 53).map (fun i => (i.zero, i.size, i.bytes)) = some (some (.agg #[zS, zS]), 2, 32) := by kernel_rfl
theorem zero_two (n : Nat) : Builtin.zeroCells (Value.agg #[zS, zS]).cells n = (List.replicate (n * 2) zS).toArray := made_two zS (n * 2)
/-- append of one more where there is no room. -/
theorem app_end {w : World} {g n : Nat} {fs : List Fil} (hB : Blk w g (filV fs) 53) (hl : fs.length = n) (hn : n ≤ 1000) (ty : TypeId) (k : Nat) (a b : Value) (hk : Blk w k [a, b] 53) (ha : a.oneCell' = true) (hb : b.oneCell' = true) :
    ∃ c', n + 1 ≤ c' ∧ c' ≤ maxLen ∧ (Builtin.append_ #[23, 23] ty #[.slice (some ⟨g, 0, none⟩) n n, .slice (some ⟨k, 0, none⟩) 1 1]).run Tryd.prog w =
      .ok (.slice (some ⟨w.heap.size, 0, none⟩) (n + 1) c') (w.drew.alloc (.cells (filV fs ++ [a, b] ++ List.replicate ((c' - (n + 1)) * 2) zS).toArray 53)) := by
  obtain ⟨i, hi, hz0, hz1, hz2⟩ := info_parts Tryd.infoF
  have hs : Src Tryd.prog i.size 23 (.slice (some ⟨k, 0, none⟩) 1 1) 1 [a, b] w := Src.ofSlice w Tryd.underlying23 _ 1 1 [a, b] (by rw [hz1]; rfl) (hk.read 0 [a, b] (fun j u hu => by rw [Nat.zero_add]; exact hu)) (by simp [ha, hb])
  have hold : (Builtin.firstCells i.size n (.slice (some ⟨g, 0, none⟩) n n)).run Tryd.prog w.drew = .ok (filV fs).toArray w.drew := run_firstCells_some w.drew i.size n _ n n (filV fs) (by rw [hz1, filV_length, hl]) (hB.drew.read 0 (filV fs) (fun j u hu => by rw [Nat.zero_add]; exact hu))
  have hfit : Builtin.nextslicecap (n + 1) n * i.bytes ≤ 281474976710656 := by
    rw [hz2]
    exact growslice_fits (by omega) (by omega)
  refine ⟨grownCap w (n + 1) n 53, grownCap_ge w _ _ _, grownCap_le_maxLen w _ _ _ (by unfold maxLen; omega), ?_⟩
  rw [run_append_grow_src w _ _ ty 53 i _ Tryd.underlying23 hi hz0 (some ⟨g, 0, none⟩) n n (filV fs) hold _ 1 [a, b] hs (by omega) (by omega) hfit, zero_two]
  have e : (filV fs ++ [a, b] ++ List.replicate ((grownCap w (n + 1) n 53 - (n + 1)) * 2) zS).toArray = (filV fs ++ [a, b]).toArray ++ (List.replicate ((grownCap w (n + 1) n 53 - (n + 1)) * 2) zS).toArray := by
    apply Array.ext'
    simp
  rw [e]

/-- append of zero values where there is no room. -/
theorem app_zeros {w : World} {g n i : Nat} {fs : List Fil} (hB : Blk w g (filV fs) 53) (hl : fs.length = n) (hn : n ≤ 1000) (hi : i < n) (ty : TypeId) (z : Int) (hz : z = (n : Int) + 1 - i) :
    ∃ c', n + 1 ≤ c' ∧ c' ≤ maxLen ∧ (Builtin.append_ #[23, 3] ty #[.slice (some ⟨g, 0, none⟩) i n, .int .i64 z]).run Tryd.prog w =
      .ok (.slice (some ⟨w.heap.size, 0, none⟩) (n + 1) c') (w.drew.alloc (.cells (filV (fs.take i) ++ List.replicate ((c' - i) * 2) zS).toArray 53)) := by
  obtain ⟨inf, hinf, hz0, hz1, hz2⟩ := info_parts Tryd.infoF
  subst hz
  have e : ((n : Int) + 1 - i) = ((n + 1 - i : Nat) : Int) := by omega
  rw [e]
  have hold : (Builtin.firstCells inf.size i (.slice (some ⟨g, 0, none⟩) i n)).run Tryd.prog w.drew = .ok (filV (fs.take i)).toArray w.drew := run_firstCells_some w.drew inf.size i _ i n (filV (fs.take i)) (by rw [hz1, filV_length, List.length_take, hl]; omega) (hB.drew.read 0 (filV (fs.take i)) (fun j u hu => by
    rw [Nat.zero_add]
    rw [filV_take, List.getElem?_take] at hu
    split at hu
    · exact hu
    · cases hu))
  have hfit : Builtin.nextslicecap (n + 1) n * inf.bytes ≤ 281474976710656 := by
    rw [hz2]
    exact growslice_fits (by omega) (by omega)
  refine ⟨grownCap w (n + 1) n 53, grownCap_ge w _ _ _, grownCap_le_maxLen w _ _ _ (by unfold maxLen; omega), ?_⟩
  have hge := grownCap_ge w (n + 1) n 53
  have hw : IntKind.i64.wrap ((n + 1 - i : Nat) : Int) = ((n + 1 - i : Nat) : Int) := by rw [IntKind.wrap_i64]; omega
  have need : i + (n + 1 - i) = n + 1 := by omega
  have hroom : ¬ n + 1 ≤ n := by omega
  have h48' : ¬ (281474976710656 < Builtin.nextslicecap (n + 1) n * inf.bytes) := by omega
  have h48i : ¬ (281474976710656 < ((n + 1 - i : Nat) : Int) * (inf.bytes : Int)) := by rw [hz2]; omega
  have hneg : ¬ (((n + 1 - i : Nat) : Int) < 0) := by omega
  have hns : ¬ ((n + 1 - i) * inf.size = 0) := by rw [hz1]; omega
  have hzc : Builtin.zeroCells (Value.agg #[zS, zS]).cells (n + 1 - i) ++ Builtin.zeroCells (Value.agg #[zS, zS]).cells (grownCap w (n + 1) n 53 - (n + 1)) = (List.replicate ((grownCap w (n + 1) n 53 - i) * 2) zS).toArray := by
    rw [zero_two, zero_two, show (grownCap w (n + 1) n 53 - i) * 2 = (n + 1 - i) * 2 + (grownCap w (n + 1) n 53 - (n + 1)) * 2 by omega]
    apply Array.ext'
    simp
  have e2 : (filV (fs.take i) ++ List.replicate ((grownCap w (n + 1) n 53 - i) * 2) zS).toArray = (filV (fs.take i)).toArray ++ (Builtin.zeroCells (Value.agg #[zS, zS]).cells (n + 1 - i) ++ Builtin.zeroCells (Value.agg #[zS, zS]).cells (grownCap w (n + 1) n 53 - (n + 1))) := by
    rw [hzc]; simp
  rw [e2, ← Array.append_assoc]
  generalize (n + 1 - i : Nat) = m at *
  have h63' : ¬ (9223372036854775807 < (i : Int) + (m : Int)) := by omega
  simp [Builtin.append_, run_underlying Tryd.underlying23, run_underlying Tryd.underlying3, sizeOf, typeInfo, zeroValue, hinf, hz0, asInt, asIntOf, hw, hneg, hns, need, hroom, h63', h48', h48i, Question.forced, hold, newRow, grownCap]

/-- copy of cells onto a block that is known whole. -/
theorem copy_blk {w : World} {g o dLen dCap : Nat} {cs : List Value} (hB : Blk w g cs 53) (ty : TypeId) (a : Addr) (sLen sCap : Nat) (news : List Value) (hl : news.length = Nat.min sLen dLen * 2) (hfit : o + news.length ≤ cs.length)
    (hsrc : ∀ j v, news[j]? = some v → w.cell? (a.add j) = some v) (h1 : ∀ v ∈ news, v.oneCell' = true) :
    (Builtin.copy_ #[23, 23] ty #[.slice (some ⟨g, o, none⟩) dLen dCap, .slice (some a) sLen sCap]).run Tryd.prog w =
      .ok (goInt (Nat.min sLen dLen : Nat)) (w.setRow g (cs.take o ++ news ++ cs.drop (o + news.length)).toArray) := by
  obtain ⟨i, hi, hz0, hz1, hz2⟩ := info_parts Tryd.infoF
  have hst := run_storeCells_at Tryd.prog g o 53 news 0 cs.toArray w hB (by simpa using hfit) h1
  have hld := run_firstCells_some (P := Tryd.prog) w i.size (Nat.min sLen dLen) a sLen sCap news (by rw [hz1]; exact hl) hsrc
  simp only [Nat.add_zero] at hst
  simp [Builtin.copy_, run_underlying Tryd.underlying23, Builtin.lenOf, sizeOf, typeInfo, hi]
  rw [hld]
  simp [Result.andThen, hst]
/-- append where there is room. -/
theorem app_room {w : World} {g : Nat} {cs : List Value} (hB : Blk w g cs 53) (ty : TypeId) (sLen sCap : Nat) (a : Addr) (m d : Nat) (news : List Value) (hl : news.length = m * 2) (hroom : sLen + m ≤ sCap) (hfit : sLen * 2 + news.length ≤ cs.length)
    (hsrc : ∀ j v, news[j]? = some v → w.cell? (a.add j) = some v) (h1 : ∀ v ∈ news, v.oneCell' = true) :
    (Builtin.append_ #[23, 23] ty #[.slice (some ⟨g, 0, none⟩) sLen sCap, .slice (some a) m d]).run Tryd.prog w =
      .ok (.slice (some ⟨g, 0, none⟩) (sLen + m) sCap) (w.setRow g (cs.take (sLen * 2) ++ news ++ cs.drop (sLen * 2 + news.length)).toArray) := by
  obtain ⟨i, hi, hz0, hz1, hz2⟩ := info_parts Tryd.infoF
  have hst := run_storeCells_at Tryd.prog g (sLen * 2) 53 news 0 cs.toArray w hB (by simpa using hfit) h1
  have hld := run_firstCells_some (P := Tryd.prog) w i.size m a m d news (by rw [hz1]; exact hl) hsrc
  rw [hz1] at hld
  simp only [Nat.add_zero] at hst
  simp [Builtin.append_, run_underlying Tryd.underlying23, sizeOf, typeInfo, hi, Builtin.lenOf, hroom, hz1, hld, Addr.add_lit, hst]

/-- clear of one file. -/
theorem clear_one {w : World} {g : Nat} {cs : List Value} (hB : Blk w g cs 53) (ty : TypeId) (o c : Nat) (hfit : o + 2 ≤ cs.length) :
    (Builtin.clear_ #[23] ty #[.slice (some ⟨g, o, none⟩) 1 c]).run Tryd.prog w = .ok (.tuple #[]) (w.setRow g (cs.take o ++ [zS, zS] ++ cs.drop (o + 2)).toArray) := by
  obtain ⟨i, hi, hz0, hz1, hz2⟩ := info_parts Tryd.infoF
  have hst := run_storeCells_at Tryd.prog g o 53 [zS, zS] 0 cs.toArray w hB (by simpa using hfit) (by simp; rfl)
  simp only [Nat.add_zero] at hst
  have hz : Builtin.zeroCells (Value.agg #[zS, zS]).cells 1 = #[zS, zS] := zero_two 1
  simp [Builtin.clear_, run_underlying Tryd.underlying23, zeroValue, typeInfo, hi, hz0]
  rw [hz, show (#[zS, zS] : Array Value).toList = [zS, zS] from rfl, hst]
  simp [Result.andThen]
end Go.Proofs.YtnkkjedckehoaaaDoor
