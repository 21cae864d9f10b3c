/- Two vaults, and blocks beside them; what is named, call by call: lists. -/
import Derived.Test.YtdejhpinmkbngaaVl
namespace Go.Proofs.Ytdejhpinmkbngaa
open Go.RowKit Go.Maps

/-! ### Two vaults that were made since the world w0, apart from each other and from the blocks X -/
def St2 (w0 w : World) (g : Nat) (S : List Sec) (N : List Nam) (g' : Nat) (S' : List Sec) (N' : List Nam) (X : Nat → Prop) : Prop :=
  ∃ F G, Vlt w g S N F ∧ Vlt w g' S' N' G ∧ (∀ i, F i → ¬ G i) ∧ Below w0.heap.size w0 w ∧ (∀ i, F i → w0.heap.size ≤ i) ∧ (∀ i, G i → w0.heap.size ≤ i) ∧ ∀ i, X i → i < w.heap.size ∧ ¬ F i ∧ ¬ G i
def Nil (_ : Nat) : Prop := False
section
variable {w0 w w' : World} {g g' : Nat} {S S' : List Sec} {N N' : List Nam} {X : Nat → Prop}
theorem St2.bel (h : St2 w0 w g S N g' S' N' X) : Below w0.heap.size w0 w := by obtain ⟨_, _, _, _, _, hb, _⟩ := h; exact hb
theorem St2.swap (h : St2 w0 w g S N g' S' N' X) : St2 w0 w g' S' N' g S N X := by
  obtain ⟨F, G, h1, h2, h3, h4, h5, h6, h7⟩ := h
  exact ⟨G, F, h2, h1, fun i hg hf => h3 i hf hg, h4, h6, h5, fun i hi => ⟨(h7 i hi).1, (h7 i hi).2.2, (h7 i hi).2.1⟩⟩
theorem St2.none (h : St2 w0 w g S N g' S' N' X) : St2 w0 w g S N g' S' N' Nil := by
  obtain ⟨F, G, h1, h2, h3, h4, h5, h6, h7⟩ := h
  exact ⟨F, G, h1, h2, h3, h4, h5, h6, fun i hi => hi.elim⟩
theorem St2.below (h : St2 w0 w g S N g' S' N' X) (hb : Below w.heap.size w w') : St2 w0 w' g S N g' S' N' X := by
  obtain ⟨F, G, h1, h2, h3, h4, h5, h6, h7⟩ := h
  exact ⟨F, G, h1.below hb, h2.below hb, h3, below2 h4 hb, h5, h6, fun i hi => ⟨Nat.lt_of_lt_of_le (h7 i hi).1 hb.size, (h7 i hi).2⟩⟩
/-- A new block beside them. -/
theorem St2.beside (h : St2 w0 w g S N g' S' N' Nil) (hb : Below w.heap.size w w') {Y : Nat → Prop} (hY : ∀ i, Y i → w.heap.size ≤ i ∧ i < w'.heap.size) : St2 w0 w' g S N g' S' N' Y := by
  obtain ⟨F, G, h1, h2, h3, h4, h5, h6, h7⟩ := h
  exact ⟨F, G, h1.below hb, h2.below hb, h3, below2 h4 hb, h5, h6, fun i hi => ⟨(hY i hi).2, fun h => by have := h1.lt i h; have := (hY i hi).1; omega, fun h => by have := h2.lt i h; have := (hY i hi).1; omega⟩⟩
/-- Only blocks beside them, and new ones, have turned. -/
theorem St2.turned {Y : Nat → Prop} (h : St2 w0 w g S N g' S' N' X) (hf : Fr X w w') (hX : ∀ i, X i → w0.heap.size ≤ i) (hY : ∀ i, Y i → (X i ∨ w.heap.size ≤ i) ∧ i < w'.heap.size) : St2 w0 w' g S N g' S' N' Y := by
  obtain ⟨F, G, h1, h2, h3, h4, h5, h6, h7⟩ := h
  refine ⟨F, G, h1.keep hf (fun i hi hx => (h7 i hx).2.1 hi), h2.keep hf (fun i hi hx => (h7 i hx).2.2 hi), h3, h4.trans (hf.to_below hX h4.size), h5, h6, fun i hi => ?_⟩
  obtain ⟨h8, h9⟩ := hY i hi
  rcases h8 with h8 | h8
  · exact ⟨h9, (h7 i h8).2⟩
  · exact ⟨h9, fun h => by have := h1.lt i h; omega, fun h => by have := h2.lt i h; omega⟩
def St2Post (w0 : World) (g : Nat) (e : Ending) (w' : World) : Prop := ∃ g', e = .returned (.pointer (some ⟨g', 0, none⟩)) ∧ St2 w0 w' g [] [] g' [] [] Nil
theorem st2_new (h : St w0 w g [] []) : Calls Try.prog 12 #[] w (St2Post w0 g) := by
  obtain ⟨F, hT, hb, hF⟩ := h
  refine (new_any w).mono ?_
  rintro e w' ⟨g', G, rfl, hT', hb', hG⟩
  exact ⟨g', rfl, F, G, hT.below hb', hT', fun i hf hg => by have := hT.lt i hf; have := hG i hg; omega, below2 hb hb', hF, fun i hi => Nat.le_trans hb.size (hG i hi), fun i hi => hi.elim⟩
theorem St2.put {S1 : List Sec} {N1 : List Nam} {x : Int} {e : Ending} {F G : Nat → Prop} (h2 : Vlt w g' S' N' G) (h3 : ∀ i, F i → ¬ G i) (h4 : Below w0.heap.size w0 w) (h5 : ∀ i, F i → w0.heap.size ≤ i) (h6 : ∀ i, G i → w0.heap.size ≤ i) (h7 : ∀ i, X i → i < w.heap.size ∧ ¬ F i ∧ ¬ G i) (h : PutPost w g S1 N1 F x e w') :
    e = .returned (.tuple #[.int .i64 x, .int .i64 0]) ∧ St2 w0 w' g S1 N1 g' S' N' X ∧ ∀ i, X i → w'.heap[i]? = w.heap[i]? := by
  obtain ⟨F', rfl, hT', hf, hF'⟩ := h
  refine ⟨rfl, ⟨F', G, hT', h2.keep hf (fun i hg hf => h3 i hf hg), fun i hf' hg => ?_, h4.trans (hf.to_below h5 h4.size), fun i hi => (hF' i hi).elim (h5 i) (fun h => Nat.le_trans h4.size h), h6, fun i hi => ?_⟩, fun i hi => hf.block i (h7 i hi).1 (h7 i hi).2.1⟩
  · rcases hF' i hf' with h1 | h1
    · exact h3 i h1 hg
    · have := h2.lt i hg
      omega
  · obtain ⟨x1, x2, x3⟩ := h7 i hi
    exact ⟨Nat.lt_of_lt_of_le x1 hf.size, fun h => (hF' i h).elim x2 (by omega), x3⟩
theorem st2_seal (h : St2 w0 w g S N g' S' N' X) (k : Int) (a p : ByteArray) (x : Int) (ha : a.size ≤ 281474976710656) (hl : S.length < 16384) :
    Calls Try.prog 13 #[.pointer (some ⟨g, 0, none⟩), .int .i64 k, .string a, .string p, .int .i64 x] w fun e w' => e = .returned (.tuple #[.int .i64 (sealI S p x), .int .i64 (sealC p)]) ∧ St2 w0 w' g (sealT S k a p x) N g' S' N' X ∧ ∀ i, X i → w'.heap[i]? = w.heap[i]? := by
  unfold sealI sealC sealT
  by_cases hp : p.size ≤ 5116
  · rw [if_pos hp, if_pos hp, if_pos hp]
    obtain ⟨F, G, h1, h2, h3, h4, h5, h6, h7⟩ := h
    refine (seal_yes h1 k a p x hp ha hl).mono ?_
    intro e w' hpp
    exact St2.put h2 h3 h4 h5 h6 h7 hpp
  · rw [if_neg hp, if_neg hp, if_neg hp]
    refine (seal_no g k a p x (by omega)).mono ?_
    rintro e w' ⟨rfl, b⟩
    refine ⟨rfl, h.below b, fun i hi => ?_⟩
    obtain ⟨F, G, h1, h2, h3, h4, h5, h6, h7⟩ := h
    exact b.block i (h7 i hi).1
theorem st2_name (h : St2 w0 w g S N g' S' N' X) {k : Int} {l : ByteArray} (x : Int) (hk : I64 k) (hs : l.size ≤ 281474976710656) (hl : N.length < 16384) :
    Calls Try.prog 17 #[.pointer (some ⟨g, 0, none⟩), .int .i64 k, .string l, .int .i64 x] w fun e w' => e = .returned (.tuple #[.int .i64 (nameI N k l x), .int .i64 0]) ∧ St2 w0 w' g S (nameN N k l x) g' S' N' X ∧ ∀ i, X i → w'.heap[i]? = w.heap[i]? := by
  obtain ⟨F, G, h1, h2, h3, h4, h5, h6, h7⟩ := h
  refine (name_any h1 x hk hs hl).mono ?_
  intro e w' hpp
  exact St2.put h2 h3 h4 h5 h6 h7 hpp
theorem st2_size (h : St2 w0 w g S N g' S' N' X) {x : Int} (hx : I64 x) :
    Calls Try.prog 19 #[.pointer (some ⟨g, 0, none⟩), .int .i64 x] w fun e w' => e = .returned (.int .i64 (sizeV S x)) ∧ St2 w0 w' g S N g' S' N' X := by
  have h' := h
  obtain ⟨F, G, hT, _⟩ := h
  refine (vsize_any hT hx).mono ?_
  rintro e w' ⟨rfl, b⟩
  exact ⟨rfl, h'.below b⟩
theorem St2.drew (h : St2 w0 w g S N g' S' N' X) : St2 w0 w.drew g S N g' S' N' X := h.below ⟨rfl, rfl, rfl, Nat.le_refl _, fun _ _ => rfl⟩
theorem St2.drewN (h : St2 w0 w g S N g' S' N' X) (q : Nat) : St2 w0 (w.drewN q) g S N g' S' N' X := h.below ⟨rfl, rfl, rfl, Nat.le_refl _, fun _ _ => rfl⟩
end

/-! ### What is named -/
def nameL (N : List Nam) (x : Cal) : List Nam := nameN N x.key x.ad x.num
def nameA (l : List Cal) : List Nam := l.foldl nameL []
theorem nameA_snoc {ls : List Cal} {j : Nat} (h : j < ls.length) : nameA (ls.take (j + 1)) = nameL (nameA (ls.take j)) ls[j] := by
  rw [take_snoc h, nameA, List.foldl_append]
  rfl
theorem nameN_len (N : List Nam) (k : Int) (l : ByteArray) (x : Int) : (nameN N k l x).length ≤ N.length + 1 := by
  unfold nameN
  split <;> simp
theorem name_fold (l : List Cal) : ∀ N : List Nam, (l.foldl nameL N).length ≤ N.length + l.length := by
  induction l with
  | nil => intro N; simp
  | cons x l ih =>
    intro N
    have := ih (nameL N x)
    have := nameN_len N x.key x.ad x.num
    simp only [List.foldl_cons, List.length_cons]
    unfold nameL at *
    omega
theorem nameA_len (l : List Cal) : (nameA l).length ≤ l.length := by
  have := name_fold l []
  simp only [List.length_nil, Nat.zero_add] at this
  exact this
theorem name_keeps {N : List Nam} {k : Int} {l : ByteArray} {m : Nam} (h : findN N k l = some m) (k' : Int) (l' : ByteArray) (x : Int) : findN (nameN N k' l' x) k l = some m := by
  unfold nameN
  split
  · exact h
  · next e =>
    rw [findN_app e]
    by_cases hk : k = k' ∧ l = l'
    · obtain ⟨rfl, rfl⟩ := hk
      rw [e] at h
      cases h
    · rw [if_neg hk]
      exact h
theorem name_self (N : List Nam) (k : Int) (l : ByteArray) (x : Int) : (findN (nameN N k l x) k l).map Nam.h = some (nameI N k l x) := by
  unfold nameN nameI
  split
  · next m e => rw [e]; rfl
  · next e =>
    rw [findN_app e, if_pos ⟨rfl, rfl⟩]
    rfl
theorem name_nodup {N : List Nam} (h : (N.map Nam.h).Nodup) (hl : N.length < 4294967296) (k : Int) (l : ByteArray) (x : Int) : ((nameN N k l x).map Nam.h).Nodup := by
  unfold nameN
  split
  · exact h
  · rw [List.map_append, List.nodup_append]
    refine ⟨h, by simp, fun a ha b hb => ?_⟩
    simp at hb
    rw [hb]
    rintro rfl
    exact draw_free _ (by rw [List.length_map]; exact hl) _ ha
theorem nodup_find {N : List Nam} (h : (N.map Nam.h).Nodup) {m m' : Nam} (hm : m ∈ N) (hm' : m' ∈ N) (e : m.h = m'.h) : m = m' := by
  induction N with
  | nil => cases hm
  | cons a N ih =>
    rw [List.map_cons, List.nodup_cons] at h
    rcases List.mem_cons.1 hm with rfl | h1 <;> rcases List.mem_cons.1 hm' with rfl | h2
    · rfl
    · exact absurd (List.mem_map.2 ⟨m', h2, e.symm⟩) h.1
    · exact absurd (List.mem_map.2 ⟨m, h1, e⟩) h.1
    · exact ih h.2 h1 h2
/-- Two names are alike just if keys and labels are. -/
theorem name_alike {N : List Nam} (nd : (N.map Nam.h).Nodup) (hl : N.length < 4294967296) {k k' : Int} {l l' : ByteArray} {x y : Int} (h : (findN N k l).map Nam.h = some y) : (y = nameI N k' l' x) ↔ (k = k' ∧ l = l') := by
  obtain ⟨m, hm, rfl⟩ := Option.map_eq_some_iff.1 h
  obtain ⟨rfl, rfl⟩ := findN_some hm
  unfold nameI
  split
  · next m' e =>
    obtain ⟨rfl, rfl⟩ := findN_some e
    constructor
    · intro hh
      rw [nodup_find nd (findN_mem hm) (findN_mem e) hh]
      exact ⟨rfl, rfl⟩
    · rintro ⟨h1, h2⟩
      rw [h1, h2, e] at hm
      injection hm with hm
      rw [hm]
  · next e =>
    constructor
    · intro hh
      have h1 : m.h ∈ N.map Nam.h := List.mem_map.2 ⟨m, findN_mem hm, rfl⟩
      rw [hh] at h1
      exact absurd h1 (draw_free _ (by rw [List.length_map]; exact hl) _)
    · rintro ⟨rfl, rfl⟩
      rw [e] at hm
      cases hm
/-- The same calls under other keys and labels. -/
def twN (f : Int → Int) (p : ByteArray) (m : Nam) : Nam := ⟨m.h, f m.key, p ++ m.label⟩
theorem app_inj {p a b : ByteArray} (h : p ++ a = p ++ b) : a = b := by
  have e : (p ++ a).data.toList = (p ++ b).data.toList := by rw [h]
  rw [ByteArray.data_append, ByteArray.data_append, Array.toList_append, Array.toList_append] at e
  have := List.append_cancel_left e
  cases a; cases b
  simpa using this
theorem find_tw {f : Int → Int} (hf : ∀ a b, I64 a → I64 b → f a = f b → a = b) (p : ByteArray) (N : List Nam) (hN : ∀ m ∈ N, I64 m.key) {k : Int} (hk : I64 k) (l : ByteArray) : findN (N.map (twN f p)) (f k) (p ++ l) = (findN N k l).map (twN f p) := by
  induction N with
  | nil => rfl
  | cons m N ih =>
    have ih := ih (fun m hm => hN m (List.mem_cons_of_mem _ hm))
    unfold findN at ih ⊢
    rw [List.map_cons]
    by_cases e : m.key = k ∧ m.label = l
    · rw [List.find?_cons_of_pos (by obtain ⟨rfl, rfl⟩ := e; simp [twN]), List.find?_cons_of_pos (by simpa using e)]
      rfl
    · have e' : ¬ ((twN f p m).key = f k ∧ (twN f p m).label = p ++ l) := fun h => e ⟨hf _ _ (hN m List.mem_cons_self) hk h.1, app_inj h.2⟩
      rw [List.find?_cons_of_neg (by simpa using e'), List.find?_cons_of_neg (by simpa using e), ih]
theorem name_tw {f : Int → Int} (hf : ∀ a b, I64 a → I64 b → f a = f b → a = b) (p : ByteArray) (N : List Nam) (hN : ∀ m ∈ N, I64 m.key) {k : Int} (hk : I64 k) (l : ByteArray) (x : Int) :
    nameI (N.map (twN f p)) (f k) (p ++ l) x = nameI N k l x ∧ nameN (N.map (twN f p)) (f k) (p ++ l) x = (nameN N k l x).map (twN f p) := by
  have e1 : (N.map (twN f p)).map Nam.h = N.map Nam.h := by rw [List.map_map]; rfl
  unfold nameI nameN
  rw [find_tw hf p N hN hk l, e1]
  cases findN N k l with
  | none => exact ⟨rfl, by simp [twN]⟩
  | some m => exact ⟨rfl, rfl⟩
theorem name_keys {N : List Nam} (hN : ∀ m ∈ N, I64 m.key) {k : Int} (hk : I64 k) (l : ByteArray) (x : Int) : ∀ m ∈ nameN N k l x, I64 m.key := by
  unfold nameN
  split
  · exact hN
  · intro m hm
    rcases List.mem_append.1 hm with h | h
    · exact hN m h
    · rw [List.mem_singleton.1 h]; exact hk
theorem mask2 (n : Int) : bits .and .i64 n 3 = n % 4 := by
  have h1 : (BitVec.ofInt 64 3).toNat = 2 ^ 2 - 1 := by decide
  have key : (BitVec.ofInt 64 n &&& BitVec.ofInt 64 3).toNat = (n % ((2 ^ 64 : Nat) : Int)).toNat % 2 ^ 2 := by
    rw [BitVec.toNat_and, BitVec.toNat_ofInt, h1, Nat.and_two_pow_sub_one_eq_mod]
  show IntKind.i64.wrap ((BitVec.ofInt 64 n &&& BitVec.ofInt 64 3).toNat : Nat) = n % 4
  rw [key, IntKind.wrap_i64]
  omega
theorem mask2_cases (n : Int) : bits .and .i64 n 3 = 0 ∨ bits .and .i64 n 3 = 1 ∨ bits .and .i64 n 3 = 2 ∨ bits .and .i64 n 3 = 3 := by
  rw [mask2]
  omega
theorem xor_i64 (a b : Int) : I64 (bits .xor .i64 a b) := by
  have := bits_within .xor .i64 a b
  exact ⟨this.1, this.2⟩
end Go.Proofs.Ytdejhpinmkbngaa
