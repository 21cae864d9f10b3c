/- What is sealed, call by call: lists; a vault beside rows of the law's own. -/
import Derived.Test.YtdejhpinmkbngaaVk
namespace Go.Proofs.Ytdejhpinmkbngaa
open Go.RowKit Go.Maps

def sealL (S : List Sec) (x : Cal) : List Sec := sealT S x.key x.ad x.plain x.num
def sealA (l : List Cal) : List Sec := l.foldl sealL []
def okC (l : List Cal) : List Cal := l.filter fun c => decide (c.plain.size ≤ 5116)
theorem take_snoc {α : Type} {ls : List α} {j : Nat} (h : j < ls.length) : ls.take (j + 1) = ls.take j ++ [ls[j]] := by
  rw [List.take_add_one, List.getElem?_eq_getElem h]
  rfl
theorem sealA_snoc {ls : List Cal} {j : Nat} (h : j < ls.length) : sealA (ls.take (j + 1)) = sealL (sealA (ls.take j)) ls[j] := by
  rw [take_snoc h, sealA, List.foldl_append]
  rfl
theorem okC_snoc {ls : List Cal} {j : Nat} (h : j < ls.length) : okC (ls.take (j + 1)) = if ls[j].plain.size ≤ 5116 then okC (ls.take j) ++ [ls[j]] else okC (ls.take j) := by
  rw [take_snoc h, okC, List.filter_append, okC]
  split
  · next e => rw [List.filter_cons_of_pos (by simpa using e), List.filter_nil]
  · next e => rw [List.filter_cons_of_neg (by simpa using e), List.filter_nil, List.append_nil]
theorem sealL_yes {S : List Sec} {x : Cal} (h : x.plain.size ≤ 5116) : sealL S x = S ++ [⟨draw (S.map Sec.h) x.num, x.key, x.ad, x.plain⟩] := by rw [sealL, sealT, if_pos h]; rfl
theorem sealL_no {S : List Sec} {x : Cal} (h : ¬ x.plain.size ≤ 5116) : sealL S x = S := by rw [sealL, sealT, if_neg h]
theorem sealL_len (S : List Sec) (x : Cal) : (sealL S x).length ≤ S.length + 1 := sealT_len1 _ _ _ _ _
theorem seal_fold (l : List Cal) : ∀ S : List Sec, (l.foldl sealL S).length ≤ S.length + l.length := by
  induction l with
  | nil => intro S; simp
  | cons x l ih =>
    intro S
    have := ih (sealL S x)
    have := sealL_len S x
    simp only [List.foldl_cons, List.length_cons]
    omega
theorem sealA_len (l : List Cal) : (sealA l).length ≤ l.length := by
  have := seal_fold l []
  simp only [List.length_nil, Nat.zero_add] at this
  exact this
theorem nodup_sealL {S : List Sec} {x : Cal} (h : (S.map Sec.h).Nodup) (hl : S.length < 4294967296) : ((sealL S x).map Sec.h).Nodup := by
  by_cases hp : x.plain.size ≤ 5116
  · rw [sealL_yes hp, List.map_append, List.nodup_append]
    refine ⟨h, by simp, fun a ha b hb => ?_⟩
    simp at hb
    rw [hb]
    rintro rfl
    exact draw_free _ (by rw [List.length_map]; exact hl) _ ha
  · rw [sealL_no hp]
    exact h
theorem nodup_fold (l : List Cal) : ∀ S : List Sec, (S.map Sec.h).Nodup → S.length + l.length < 4294967296 → ((l.foldl sealL S).map Sec.h).Nodup := by
  induction l with
  | nil => intro S h _; exact h
  | cons x l ih =>
    intro S h hl
    have := sealL_len S x
    simp only [List.length_cons] at hl
    exact ih (sealL S x) (nodup_sealL h (by omega)) (by omega)
theorem sealA_nodup {l : List Cal} (hl : l.length ≤ 100) : ((sealA l).map Sec.h).Nodup := nodup_fold l [] (by simp) (by simp; omega)
theorem ok_fold (l : List Cal) : ∀ S : List Sec, (l.foldl sealL S).map (fun s => (s.key, s.ad, s.plain)) = S.map (fun s => (s.key, s.ad, s.plain)) ++ (okC l).map (fun c => (c.key, c.ad, c.plain)) := by
  induction l with
  | nil => intro S; simp [okC]
  | cons x l ih =>
    intro S
    rw [List.foldl_cons, ih]
    by_cases hp : x.plain.size ≤ 5116
    · rw [sealL_yes hp]
      simp [okC, hp]
    · rw [sealL_no hp]
      simp [okC, hp]
theorem sealA_ok (l : List Cal) : (sealA l).map (fun s => (s.key, s.ad, s.plain)) = (okC l).map (fun c => (c.key, c.ad, c.plain)) := by
  have := ok_fold l []
  simp only [List.map_nil, List.nil_append] at this
  exact this
theorem sealA_okLen (l : List Cal) : (sealA l).length = (okC l).length := by
  have := congrArg List.length (sealA_ok l)
  simpa using this
theorem sealA_at {l : List Cal} {i : Nat} (h : i < (sealA l).length) (h' : i < (okC l).length) : (sealA l)[i].key = (okC l)[i].key ∧ (sealA l)[i].ad = (okC l)[i].ad ∧ (sealA l)[i].plain = (okC l)[i].plain := by
  have e := congrArg (fun x => x[i]?) (sealA_ok l)
  simp [h, h'] at e
  exact ⟨e.1, e.2.1, e.2.2⟩
theorem okC_size {l : List Cal} {i : Nat} (h : i < (okC l).length) : (okC l)[i].plain.size ≤ 5116 := by
  have := List.getElem_mem h
  have := (List.mem_filter.1 this).2
  simpa using this
theorem find_own : ∀ {S : List Sec}, (S.map Sec.h).Nodup → ∀ {i : Nat} (hi : i < S.length), findS S S[i].h = some S[i]
  | [], _, _, hi => by simp at hi
  | s :: S, _, 0, _ => by simp [findS]
  | s :: S, nd, i + 1, hi => by
    rw [List.map_cons, List.nodup_cons] at nd
    have hi' : i < S.length := by simpa using hi
    have hne : ¬ s.h = S[i].h := fun e => nd.1 (e ▸ List.mem_map.2 ⟨S[i], List.getElem_mem hi', rfl⟩)
    have ih := find_own nd.2 hi'
    unfold findS at ih ⊢
    simp only [List.getElem_cons_succ]
    rw [List.find?_cons_of_neg (by simpa using hne)]
    exact ih
theorem open_own {S : List Sec} (nd : (S.map Sec.h).Nodup) {i : Nat} (hi : i < S.length) (k : Int) (a : ByteArray) : openV S k a S[i].h = if S[i].key = k ∧ S[i].ad = a then some S[i].plain else none := by
  unfold openV
  rw [find_own nd hi]
theorem find_mem {S : List Sec} {x : Int} : (findS S x).isSome = decide (x ∈ S.map Sec.h) := by
  cases h : findS S x with
  | none => rw [decide_eq_false (findS_none.1 h)]; rfl
  | some s =>
    rw [decide_eq_true (List.mem_map.2 ⟨s, findS_mem h, findS_h h⟩)]
    rfl
theorem open_out {S : List Sec} {x : Int} (h : x ∉ S.map Sec.h) (k : Int) (a : ByteArray) : openV S k a x = none := by
  unfold openV
  rw [findS_none.2 h]
theorem size_in {S : List Sec} {x : Int} (hp : ∀ s ∈ S, s.plain.size ≤ 5116) : decide (0 < sizeV S x) = decide (x ∈ S.map Sec.h) := by
  rw [← find_mem, sizeV]
  cases h : findS S x with
  | none => rfl
  | some s =>
    have h1 := hp s (findS_mem h)
    have h2 := size_bucket s.plain.size h1
    have h3 := sizeN_four s.plain.size
    simp only [Option.isSome_some]
    exact decide_eq_true (by show 0 < sizeI (bucketI s.plain.size); rw [h2]; omega)
theorem sealL_small {S : List Sec} {x : Cal} (h : ∀ s ∈ S, s.plain.size ≤ 5116) : ∀ s ∈ sealL S x, s.plain.size ≤ 5116 := by
  by_cases hp : x.plain.size ≤ 5116
  · rw [sealL_yes hp]
    intro s hs
    rcases List.mem_append.1 hs with h1 | h1
    · exact h s h1
    · rw [List.mem_singleton.1 h1]; exact hp
  · rw [sealL_no hp]; exact h
theorem small_fold (l : List Cal) : ∀ S : List Sec, (∀ s ∈ S, s.plain.size ≤ 5116) → ∀ s ∈ l.foldl sealL S, s.plain.size ≤ 5116 := by
  induction l with
  | nil => intro S h; exact h
  | cons x l ih => intro S h; exact ih (sealL S x) (sealL_small h)
theorem sealA_small (l : List Cal) : ∀ s ∈ sealA l, s.plain.size ≤ 5116 := small_fold l [] (by simp)
def I64S (S : List Sec) : Prop := ∀ s ∈ S, I64 s.h
theorem sealL_i64 {S : List Sec} {x : Cal} (h : I64S S) (hl : S.length < 4294967296) : I64S (sealL S x) := by
  by_cases hp : x.plain.size ≤ 5116
  · rw [sealL_yes hp]
    intro s hs
    rcases List.mem_append.1 hs with h1 | h1
    · exact h s h1
    · rw [List.mem_singleton.1 h1]; exact draw_i64 _ (by rw [List.length_map]; exact hl) _
  · rw [sealL_no hp]; exact h
theorem i64_fold (l : List Cal) : ∀ S : List Sec, I64S S → S.length + l.length < 4294967296 → I64S (l.foldl sealL S) := by
  induction l with
  | nil => intro S h _; exact h
  | cons x l ih =>
    intro S h hl
    have := sealL_len S x
    simp only [List.length_cons] at hl
    exact ih (sealL S x) (sealL_i64 h (by omega)) (by omega)
theorem sealA_i64 {l : List Cal} (hl : l.length ≤ 100) : I64S (sealA l) := i64_fold l [] (by simp [I64S]) (by simp; omega)

theorem Rd.get {w : World} {b o : Nat} {xs : List Value} (h : Rd w (some ⟨b, o, none⟩) xs) {k : Nat} (hk : k < xs.length) : w.cell? ⟨b, o + k, none⟩ = some xs[k] := by
  obtain ⟨b', o', e, hc, -⟩ := h.at_ hk
  injection e with e
  injection e with e1 e2
  subst e1 e2
  exact hc
theorem Rd.getI {w : World} {b o : Nat} {H : List Int} (h : Rd w (some ⟨b, o, none⟩) (intV H)) {k : Nat} (hk : k < H.length) : w.cell? ⟨b, o + k, none⟩ = some (.int .i64 H[k]) := by
  rw [h.get (by rw [intV_length]; exact hk), intV_at H k hk]
theorem Rd.getC {w : World} {b off : Nat} {l : List Cal} (h : Rd w (some ⟨b, off, none⟩) (calV l)) {j : Nat} (hj : j < l.length) :
    w.cell? ⟨b, off + j * 5, none⟩ = some (.int .i64 l[j].which) ∧ w.cell? ⟨b, off + j * 5 + 1, none⟩ = some (.int .i64 l[j].key) ∧ w.cell? ⟨b, off + j * 5 + 2, none⟩ = some (.int .i64 l[j].num) ∧ w.cell? ⟨b, off + j * 5 + 3, none⟩ = some (.string l[j].ad) ∧ w.cell? ⟨b, off + j * 5 + 4, none⟩ = some (.string l[j].plain) := by
  obtain ⟨b', o', e, -, hc⟩ := h.call hj
  injection e with e
  injection e with e1 e2
  subst e1 e2
  exact hc

theorem sealI_i64 (S : List Sec) (hl : S.length ≤ 100) (p : ByteArray) (x : Int) : I64 (sealI S p x) := by
  unfold sealI
  split
  · exact draw_i64 _ (by rw [List.length_map]; omega) _
  · exact ⟨by omega, by omega⟩

/-! ### A vault, a row of handles, and a row of calls -/
def St3 (w0 w : World) (g : Nat) (S : List Sec) (v1 : Value) (hs : List Int) (v2 : Value) (cs : List Cal) : Prop :=
  ∃ F, Vlt w g S [] F ∧ Below w0.heap.size w0 w ∧ (∀ i, F i → w0.heap.size ≤ i) ∧ w.ownsRow w0.heap.size 3 1 v1 hs.length (intV hs) ∧ w.ownsRow w0.heap.size 33 5 v2 cs.length (calV cs) ∧
    (∀ i, v1.ownBlock = some i → ¬ F i ∧ v2.ownBlock ≠ some i) ∧ ∀ i, v2.ownBlock = some i → ¬ F i
theorem row_keep' {w w' : World} {v : Value} {base size : Nat} {e : TypeId} {n : Nat} {xs : List Value} (h : w.ownsRow base e size v n xs) (same : ∀ i, v.ownBlock = some i → w'.heap[i]? = w.heap[i]?) : w'.ownsRow base e size v n xs := by
  refine ⟨h.1, ?_⟩
  rcases h.2 with h1 | ⟨g', cap, cur, h1, h2, h3, h4⟩
  · exact .inl h1
  · exact .inr ⟨g', cap, cur, h1, h2, by rw [same g' (by rw [h1]; rfl)]; exact h3, h4⟩
section
variable {w0 w w' : World} {g : Nat} {S : List Sec} {v1 v2 : Value} {hs : List Int} {cs : List Cal}
theorem St3.st (h : St3 w0 w g S v1 hs v2 cs) : St w0 w g S [] := by
  obtain ⟨F, h1, h2, h3, _⟩ := h
  exact ⟨F, h1, h2, h3⟩
theorem St3.bel (h : St3 w0 w g S v1 hs v2 cs) : Below w0.heap.size w0 w := h.st.bel
theorem St.st3 (h : St w0 w g S []) : St3 w0 w g S (.slice none 0 0) [] (.slice none 0 0) [] := by
  obtain ⟨F, h1, h2, h3⟩ := h
  exact ⟨F, h1, h2, h3, World.ownsRow_nil _ _ _ _, World.ownsRow_nil _ _ _ _, by simp [Value.ownBlock], by simp [Value.ownBlock]⟩
theorem St3.below (h : St3 w0 w g S v1 hs v2 cs) (hb : Below w.heap.size w w') : St3 w0 w' g S v1 hs v2 cs := by
  obtain ⟨F, h1, h2, h3, h4, h5, h6, h7⟩ := h
  exact ⟨F, h1.below hb, below2 h2 hb, h3, row_keep' h4 (fun i hi => hb.block i ((h4.lt i hi).2)), row_keep' h5 (fun i hi => hb.block i ((h5.lt i hi).2)), h6, h7⟩
theorem st3_seal (h : St3 w0 w g S v1 hs v2 cs) (k : Int) (a p : ByteArray) (x : Int) (ha : a.size ≤ 281474976710656) (hl : S.length < 16384) :
    Calls Try.prog 13 #[.pointer (some ⟨g, 0, none⟩), .int .i64 k, .string a, .string p, .int .i64 x] w fun e w' => e = .returned (.tuple #[.int .i64 (sealI S p x), .int .i64 (sealC p)]) ∧ St3 w0 w' g (sealT S k a p x) v1 hs v2 cs := by
  unfold sealI sealC sealT
  by_cases hp : p.size ≤ 5116
  · rw [if_pos hp, if_pos hp, if_pos hp]
    obtain ⟨F, hT, hb, hF, h4, h5, h6, h7⟩ := h
    refine (seal_yes hT k a p x hp ha hl).mono ?_
    rintro e w' ⟨F', rfl, hT', hf, hF'⟩
    refine ⟨rfl, F', hT', hb.trans (hf.to_below hF hb.size), fun i hi => (hF' i hi).elim (hF i) (fun h => Nat.le_trans hb.size h), row_keep' h4 (fun i hi => hf.block i ((h4.lt i hi).2) (h6 i hi).1), row_keep' h5 (fun i hi => hf.block i ((h5.lt i hi).2) (h7 i hi)), fun i hi => ⟨fun h => ?_, (h6 i hi).2⟩, fun i hi h => ?_⟩
    · have := (h4.lt i hi).2
      exact (hF' i h).elim (h6 i hi).1 (by omega)
    · have := (h5.lt i hi).2
      exact (hF' i h).elim (h7 i hi) (by omega)
  · rw [if_neg hp, if_neg hp, if_neg hp]
    refine (seal_no g k a p x (by omega)).mono ?_
    rintro e w' ⟨rfl, b⟩
    exact ⟨rfl, h.below b⟩
theorem St3.app1 {v1' : Value} {hs' : List Int} (h : St3 w0 w g S v1 hs v2 cs) (hr : w'.ownsRow w0.heap.size 3 1 v1' hs'.length (intV hs')) (hg : w.grownBy w' v1.ownBlock) (hloc : v1'.ownBlock = v1.ownBlock ∨ v1'.ownBlock = some w.heap.size) : St3 w0 w' g S v1' hs' v2 cs := by
  obtain ⟨F, hT, hb, hF, h4, h5, h6, h7⟩ := h
  have hlt := hT.lt
  have hf : Fr (fun i => v1.ownBlock = some i) w w' := Fr.of_grown hg (fun k hk => hk)
  refine ⟨F, hT.keep hf (fun i hi h => (h6 i h).1 hi), hb.trans (hf.to_below (fun i hi => (h4.lt i hi).1) hb.size), hF, hr, row_keep' h5 (fun i hi => hf.block i ((h5.lt i hi).2) (fun h => (h6 i h).2 hi)), fun i hi => ?_, h7⟩
  rcases hloc with e | e
  · exact h6 i (e ▸ hi)
  · rw [e] at hi
    injection hi with hi
    subst hi
    exact ⟨fun h => by have := hlt _ h; omega, fun h => by have := (h5.lt _ h).2; omega⟩
theorem St3.app2 {v2' : Value} {cs' : List Cal} (h : St3 w0 w g S v1 hs v2 cs) (hr : w'.ownsRow w0.heap.size 33 5 v2' cs'.length (calV cs')) (hg : w.grownBy w' v2.ownBlock) (hloc : v2'.ownBlock = v2.ownBlock ∨ v2'.ownBlock = some w.heap.size) : St3 w0 w' g S v1 hs v2' cs' := by
  obtain ⟨F, hT, hb, hF, h4, h5, h6, h7⟩ := h
  have hlt := hT.lt
  have hf : Fr (fun i => v2.ownBlock = some i) w w' := Fr.of_grown hg (fun k hk => hk)
  refine ⟨F, hT.keep hf (fun i hi h => h7 i h hi), hb.trans (hf.to_below (fun i hi => (h5.lt i hi).1) hb.size), hF, row_keep' h4 (fun i hi => hf.block i ((h4.lt i hi).2) (fun h => (h6 i hi).2 h)), hr, fun i hi => ⟨(h6 i hi).1, ?_⟩, fun i hi => ?_⟩
  · rcases hloc with e | e
    · rw [e]; exact (h6 i hi).2
    · rw [e]
      intro h
      injection h with h
      have := (h4.lt i hi).2
      omega
  · rcases hloc with e | e
    · exact h7 i (e ▸ hi)
    · rw [e] at hi
      injection hi with hi
      subst hi
      exact fun h => by have := hlt _ h; omega
theorem St3.rd1 {A : Option Addr} {n c : Nat} (h : St3 w0 w g S (.slice A n c) hs v2 cs) : n = hs.length ∧ Rd w A (intV hs) := by
  obtain ⟨F, hT, hb, hF, h4, h5, h6, h7⟩ := h
  obtain ⟨e1, A', c', e, -⟩ := own_form h4
  injection e with e2 e3 e4
  subst e2 e3 e4
  exact ⟨rfl, Rd.of_own h4⟩
theorem st3_open (h : St3 w0 w g S v1 hs v2 cs) {x : Int} (hx : I64 x) (k : Int) (a : ByteArray) :
    Calls Try.prog 15 #[.pointer (some ⟨g, 0, none⟩), .int .i64 k, .string a, .int .i64 x] w fun e w' => e = openE (openV S k a x) ∧ St3 w0 w' g S v1 hs v2 cs := by
  have h' := h
  obtain ⟨F, hT, _⟩ := h
  refine (open_any hT hx k a).mono ?_
  rintro e w' ⟨rfl, b⟩
  exact ⟨rfl, h'.below b⟩
theorem st3_size (h : St3 w0 w g S v1 hs v2 cs) {x : Int} (hx : I64 x) :
    Calls Try.prog 19 #[.pointer (some ⟨g, 0, none⟩), .int .i64 x] w fun e w' => e = .returned (.int .i64 (sizeV S x)) ∧ St3 w0 w' g S v1 hs v2 cs := by
  have h' := h
  obtain ⟨F, hT, _⟩ := h
  refine (vsize_any hT hx).mono ?_
  rintro e w' ⟨rfl, b⟩
  exact ⟨rfl, h'.below b⟩
theorem St3.drew (h : St3 w0 w g S v1 hs v2 cs) : St3 w0 w.drew g S v1 hs v2 cs := h.below ⟨rfl, rfl, rfl, Nat.le_refl _, fun _ _ => rfl⟩
theorem St3.drewN (h : St3 w0 w g S v1 hs v2 cs) (q : Nat) : St3 w0 (w.drewN q) g S v1 hs v2 cs := h.below ⟨rfl, rfl, rfl, Nat.le_refl _, fun _ _ => rfl⟩
theorem St3.form1 (h : St3 w0 w g S v1 hs v2 cs) : ∃ A c, v1 = .slice A hs.length c ∧ Rd w A (intV hs) := by
  obtain ⟨F, hT, hb, hF, h4, h5, h6, h7⟩ := h
  obtain ⟨-, A', c', rfl, -⟩ := own_form h4
  exact ⟨A', c', rfl, Rd.of_own h4⟩
theorem own5_form {base : Nat} {e : TypeId} {v : Value} {n : Nat} {xs : List Value} (h : w.ownsRow base e 5 v n xs) : ∃ A c, v = .slice A n c ∧ Rd w A xs ∧ n ≤ c ∧ c ≤ maxLen := by
  rcases h.2 with ⟨rfl, rfl⟩ | ⟨g, cap, cur, rfl, _, _, h1, h2, _⟩
  · have : xs = [] := List.eq_nil_of_length_eq_zero (by have := h.1; omega)
    exact ⟨none, 0, rfl, .inl this, Nat.le_refl _, by unfold maxLen; omega⟩
  · exact ⟨_, cap, rfl, .inr ⟨_, rfl, h.cells (g := g) rfl⟩, h1, h2⟩
theorem St3.rd2 {A : Option Addr} {n c : Nat} (h : St3 w0 w g S v1 hs (.slice A n c) cs) : n = cs.length ∧ Rd w A (calV cs) := by
  obtain ⟨F, hT, hb, hF, h4, h5, h6, h7⟩ := h
  obtain ⟨A', c', e, hr, -⟩ := own5_form h5
  injection e with e2 e3 e4
  subst e2 e3 e4
  exact ⟨rfl, hr⟩
theorem St3.form2 (h : St3 w0 w g S v1 hs v2 cs) : ∃ A c, v2 = .slice A cs.length c ∧ Rd w A (calV cs) := by
  obtain ⟨F, hT, hb, hF, h4, h5, h6, h7⟩ := h
  obtain ⟨A', c', rfl, hr, -⟩ := own5_form h5
  exact ⟨A', c', rfl, hr⟩
end
theorem Try.infoC : (Try.prog.info? 33).map (fun i => (i.zero, i.size, i.bytes)) = some (some (.agg #[.int .i64 0, .int .i64 0, .int .i64 0, .string ⟨#[]⟩, .string ⟨#[]⟩]), 5, 56) := by kernel_rfl
section
variable {w0 w : World} {g : Nat} {S : List Sec} {hs : List Int} {cs : List Cal} {ops : Array Oper} {rest : List Oper} {o : Oper} {a : Act} {Q : Exit → Act → World → Prop}
/-- hs = append(hs, u) -/
theorem wpAppH {A : Option Addr} {n c : Nat} {v2 : Value} (h : St3 w0 w g S (.slice A n c) hs v2 cs) (hn : hs.length ≤ 1000) (hgd : o.guard = none) (s x : Operand) (ho : o.op = .call { callee := .builtin .append, args := #[s, x], argTypes := #[42, 42] })
    (he : a.eval s = .slice A n c) (ad : Addr) (u : Int) (hx : a.eval x = .slice (some ad) 1 1) (hu : w.cell? ad = some (.int .i64 u))
    (k : ∀ A' c' w', St3 w0 w' g S (.slice A' (n + 1) c') (hs ++ [u]) v2 cs → wpList Try.prog ops Q rest (a.put o.dst (.slice A' (n + 1) c')) w') : wpList Try.prog ops Q (o :: rest) a w := by
  have h0 := h
  obtain ⟨F, hT, hb, hF, h4, h5, h6, h7⟩ := h
  have hnl : n = hs.length := (St3.rd1 h0).1
  subst hnl
  refine wpApp1 w hgd s x 42 ho w0.heap.size 3 (.int .i64 0) 8 Try.underlying42 Try.infoI rfl A hs.length c (intV hs) he h4 ad (.int .i64 u) hx hu rfl (by omega) hb.size (by unfold maxLen; omega) ?_
  intro A' c' w' hr hg hloc
  exact k A' c' w' (h0.app1 (by rw [List.length_append, intV_append]; exact hr) hg hloc)
/-- cs = append(cs, y) -/
theorem wpAppC {A : Option Addr} {n c : Nat} {v1 : Value} (h : St3 w0 w g S v1 hs (.slice A n c) cs) (hn : cs.length ≤ 1000) (hgd : o.guard = none) (s x : Operand) (ho : o.op = .call { callee := .builtin .append, args := #[s, x], argTypes := #[22, 22] })
    (he : a.eval s = .slice A n c) (q : Nat) (y : Cal) (hx : a.eval x = .slice (some ⟨q, 0, none⟩) 1 1) (hu : Blk w q (callV y) 33)
    (k : ∀ A' c' w', St3 w0 w' g S v1 hs (.slice A' (n + 1) c') (cs ++ [y]) → wpList Try.prog ops Q rest (a.put o.dst (.slice A' (n + 1) c')) w') : wpList Try.prog ops Q (o :: rest) a w := by
  have h0 := h
  obtain ⟨F, hT, hb, hF, h4, h5, h6, h7⟩ := h
  obtain ⟨A', c', e, -⟩ := own5_form h5
  injection e with e1 e2 e3
  subst e2
  obtain ⟨i, hi, hz0, hz1, hz2⟩ := info_parts Try.infoC
  refine wpList_append_own_at w hgd s x 22 ho w0.heap.size 33 i _ 5 56 Try.underlying22 hi hz0 hz1 hz2 rfl (by decide) _ cs.length (calV cs) he h5 ⟨q, 0, none⟩ 1 1 (callV y) hx rfl (fun j u hj => by rw [Addr.add_lit, hu.cell, Nat.zero_add]; exact hj) (by have := calV_one [y]; simpa [calV] using this) (by unfold maxLen; omega) (by omega) hb.size ?_
  intro v' w' hr hg _ hloc
  obtain ⟨A'', c'', rfl, -⟩ := own5_form hr
  exact k A'' c'' w' (h0.app2 (by rw [List.length_append, calV_append]; simpa [calV] using hr) hg hloc)
end
end Go.Proofs.Ytdejhpinmkbngaa
