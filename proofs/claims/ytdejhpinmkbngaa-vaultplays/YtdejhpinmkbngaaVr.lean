/- The document's vault: what lies in memory; Open, Size, handle, named. -/
import Derived.Test.YtdejhpinmkbngaaVn
namespace Go.Proofs.Ytdejhpinmkbngaa
open Go.RowKit Go.Maps

def secV (s : Sec) : List Value := [.int .i64 s.h, .int .i64 s.key, .string s.ad, .string s.plain]
def secC (S : List Sec) : List Value := S.flatMap secV
def namV (s : Nam) : List Value := [.int .i64 s.h, .int .i64 s.key, .string s.label]
def namC (N : List Nam) : List Value := N.flatMap namV
theorem secC_append (a b : List Sec) : secC (a ++ b) = secC a ++ secC b := by simp [secC]
theorem namC_append (a b : List Nam) : namC (a ++ b) = namC a ++ namC b := by simp [namC]
theorem secC_length : ∀ l : List Sec, (secC l).length = l.length * 4
  | [] => rfl
  | x :: l => by
    show (secV x ++ secC l).length = _
    rw [List.length_append, secC_length l, List.length_cons]
    simp [secV]
    omega
theorem namC_length : ∀ l : List Nam, (namC l).length = l.length * 3
  | [] => rfl
  | x :: l => by
    show (namV x ++ namC l).length = _
    rw [List.length_append, namC_length l, List.length_cons]
    simp [namV]
    omega
theorem secC_at : ∀ (l : List Sec) (j : Nat) (hj : j < l.length) (i : Nat), i < 4 → (secC l)[j * 4 + i]? = (secV l[j])[i]?
  | [], _, hj, _, _ => by simp at hj
  | x :: l, 0, _, i, hi => by
    show (secV x ++ secC l)[_]? = _
    rw [Nat.zero_mul, Nat.zero_add, List.getElem?_append_left (by simpa [secV] using hi)]
    rfl
  | x :: l, j + 1, hj, i, hi => by
    have h5 : (secV x).length = 4 := rfl
    show (secV x ++ secC l)[_]? = _
    rw [List.getElem?_append_right (by omega), h5, show (j + 1) * 4 + i - 4 = j * 4 + i by omega, secC_at l j (by simpa using hj) i hi]
    rfl
theorem namC_at : ∀ (l : List Nam) (j : Nat) (hj : j < l.length) (i : Nat), i < 3 → (namC l)[j * 3 + i]? = (namV l[j])[i]?
  | [], _, hj, _, _ => by simp at hj
  | x :: l, 0, _, i, hi => by
    show (namV x ++ namC l)[_]? = _
    rw [Nat.zero_mul, Nat.zero_add, List.getElem?_append_left (by simpa [namV] using hi)]
    rfl
  | x :: l, j + 1, hj, i, hi => by
    have h5 : (namV x).length = 3 := rfl
    show (namV x ++ namC l)[_]? = _
    rw [List.getElem?_append_right (by omega), h5, show (j + 1) * 3 + i - 3 = j * 3 + i by omega, namC_at l j (by simpa using hj) i hi]
    rfl
theorem Rd.sec {w : World} {A : Option Addr} {l : List Sec} (h : Rd w A (secC l)) {j : Nat} (hj : j < l.length) :
    ∃ b off, A = some ⟨b, off, none⟩ ∧ w.cell? ⟨b, off + j * 4, none⟩ = some (.int .i64 l[j].h) ∧ w.cell? ⟨b, off + j * 4 + 1, none⟩ = some (.int .i64 l[j].key) ∧ w.cell? ⟨b, off + j * 4 + 2, none⟩ = some (.string l[j].ad) ∧ w.cell? ⟨b, off + j * 4 + 3, none⟩ = some (.string l[j].plain) := by
  have hk : ∀ i, i < 4 → j * 4 + i < (secC l).length := fun i hi => by rw [secC_length]; omega
  obtain ⟨b, off, rfl, -, hb⟩ := h.at_ (hk 0 (by omega))
  have one : ∀ i (hi : i < 4), w.cell? ⟨b, off + j * 4 + i, none⟩ = (secV l[j])[i]? := fun i hi => by
    rw [Nat.add_assoc, h.get (hk i hi), ← secC_at l j hj i hi, List.getElem?_eq_getElem (hk i hi)]
  exact ⟨b, off, rfl, one 0 (by omega), one 1 (by omega), one 2 (by omega), one 3 (by omega)⟩
theorem Rd.nam {w : World} {A : Option Addr} {l : List Nam} (h : Rd w A (namC l)) {j : Nat} (hj : j < l.length) :
    ∃ b off, A = some ⟨b, off, none⟩ ∧ w.cell? ⟨b, off + j * 3, none⟩ = some (.int .i64 l[j].h) ∧ w.cell? ⟨b, off + j * 3 + 1, none⟩ = some (.int .i64 l[j].key) ∧ w.cell? ⟨b, off + j * 3 + 2, none⟩ = some (.string l[j].label) := by
  have hk : ∀ i, i < 3 → j * 3 + i < (namC l).length := fun i hi => by rw [namC_length]; omega
  obtain ⟨b, off, rfl, -, hb⟩ := h.at_ (hk 0 (by omega))
  have one : ∀ i (hi : i < 3), w.cell? ⟨b, off + j * 3 + i, none⟩ = (namV l[j])[i]? := fun i hi => by
    rw [Nat.add_assoc, h.get (hk i hi), ← namC_at l j hj i hi, List.getElem?_eq_getElem (hk i hi)]
  exact ⟨b, off, rfl, one 0 (by omega), one 1 (by omega), one 2 (by omega)⟩
theorem ownN_form {w : World} {base size : Nat} {e : TypeId} {v : Value} {n : Nat} {xs : List Value} (h : w.ownsRow base e size v n xs) : ∃ A c, v = .slice A n c ∧ Rd w A xs := by
  rcases h.2 with ⟨rfl, rfl⟩ | ⟨g, cap, cur, rfl, _, _, h1, h2, _⟩
  · have : xs = [] := List.eq_nil_of_length_eq_zero (by have := h.1; simpa using this)
    exact ⟨none, 0, rfl, .inl this⟩
  · exact ⟨_, cap, rfl, .inr ⟨_, rfl, h.cells (g := g) rfl⟩⟩

/-! ### The document's vault -/
def RVt (w : World) (g : Nat) (S : List Sec) (N : List Nam) (F : Nat → Prop) : Prop :=
  ∃ A1 c1 A2 c2, Blk w g [.slice A1 S.length c1, .slice A2 N.length c2] 31 ∧ w.ownsRow 0 62 4 (.slice A1 S.length c1) S.length (secC S) ∧ w.ownsRow 0 66 3 (.slice A2 N.length c2) N.length (namC N) ∧
    (∀ i, (Value.slice A1 S.length c1).ownBlock = some i → (Value.slice A2 N.length c2).ownBlock ≠ some i) ∧ ∀ i, F i ↔ i = g ∨ (Value.slice A1 S.length c1).ownBlock = some i ∨ (Value.slice A2 N.length c2).ownBlock = some i
section
variable {w w' : World} {g : Nat} {S : List Sec} {N : List Nam} {F G : Nat → Prop}
theorem RVt.lt (h : RVt w g S N F) : ∀ i, F i → i < w.heap.size := by
  obtain ⟨A1, c1, A2, c2, hB, h1, h2, -, hF⟩ := h
  intro i hi
  rcases (hF i).1 hi with rfl | hi | hi
  · exact hB.lt
  · exact (h1.lt i hi).2
  · exact (h2.lt i hi).2
theorem RVt.keep (h : RVt w g S N F) (hf : Fr G w w') (hd : ∀ i, F i → ¬ G i) : RVt w' g S N F := by
  have hl := h.lt
  obtain ⟨A1, c1, A2, c2, hB, h1, h2, h3, hF⟩ := h
  have same : ∀ i, F i → w'.heap[i]? = w.heap[i]? := fun i hi => hf.block i (hl i hi) (hd i hi)
  refine ⟨A1, c1, A2, c2, ?_, row_keep' h1 (fun i hi => same i ((hF i).2 (.inr (.inl hi)))), row_keep' h2 (fun i hi => same i ((hF i).2 (.inr (.inr hi)))), h3, hF⟩
  unfold Blk
  rw [same g ((hF g).2 (.inl rfl))]
  exact hB
theorem RVt.below (h : RVt w g S N F) (hb : Below w.heap.size w w') : RVt w' g S N F := h.keep (Fr.of_below (fun _ => False) hb) (fun _ _ h => h)
/-- What is read of it. -/
theorem RVt.reads (h : RVt w g S N F) : ∃ A1 c1 A2 c2, w.cell? ⟨g, 0, none⟩ = some (.slice A1 S.length c1) ∧ w.cell? ⟨g, 1, none⟩ = some (.slice A2 N.length c2) ∧ Rd w A1 (secC S) ∧ Rd w A2 (namC N) := by
  obtain ⟨A1, c1, A2, c2, hB, h1, h2, -, -⟩ := h
  obtain ⟨A, c, e, r1⟩ := ownN_form h1
  injection e with e1 e2 e3
  subst e1 e3
  obtain ⟨A', c', e, r2⟩ := ownN_form h2
  injection e with e1 e2 e3
  subst e1 e3
  exact ⟨A1, c1, A2, c2, hB.cell 0, hB.cell 1, r1, r2⟩
end
theorem mem_take_snoc {l : List Int} {j : Nat} (h : j < l.length) {x : Int} : x ∈ l.take (j + 1) ↔ x ∈ l.take j ∨ l[j] = x := by
  rw [take_snoc h, List.mem_append, List.mem_singleton]
  exact ⟨fun h => h.imp id Eq.symm, fun h => h.imp id Eq.symm⟩
def isH (l : List Int) (x : Int) : Bool := decide (x ∈ l)
set_option maxHeartbeats 1000000 in
theorem handle_any {w : World} {g : Nat} {S : List Sec} {N : List Nam} {F : Nat → Prop} (h : RVt w g S N F) (hn : S.length ≤ 100000) (x : Int) :
    Calls Try.prog 28 #[.pointer (some ⟨g, 0, none⟩), .int .i64 x] w fun e w' => e = .returned (.bool (isH (S.map Sec.h) x)) ∧ w' = w := by
  obtain ⟨A1, c1, A2, c2, k0, -, r1, -⟩ := h.reads
  obtain ⟨n, hn'⟩ : ∃ n, n = S.length := ⟨_, rfl⟩
  rw [← hn'] at k0 hn
  have HN := hid hn'
  clear h hn'
  go_enter Try.func28, Try.ntmps28
  go_wp2
  go_loop [5] (fun i => ∃ j : Nat, j ≤ n ∧ i = .int .i64 j ∧ Hid (x ∉ (S.map Sec.h).take j)) (fun i => n - (intOf i).toNat)
  case atStart => exact ⟨0, by omega, rfl, hid (by simp)⟩
  case round =>
    obtain ⟨j, hj, rfl, HO⟩ := hrel
    by_cases hjn : j < n
    · have hjl : j < S.length := by rw [← HN.out]; exact hjn
      have hjm : j < (S.map Sec.h).length := by rw [List.length_map]; exact hjl
      obtain ⟨b, off, rfl, q0, -⟩ := r1.sec hjl
      have hlt : (j : Int) < n := by omega
      have hz : (0 : Int) ≤ j := by omega
      have HM := hid (mem_take_snoc hjm (x := x))
      rw [List.getElem_map] at HM
      by_cases e : S[j].h = x
      · have HR : Hid (isH (S.map Sec.h) x = true) := hid (decide_eq_true (List.mem_of_mem_take (HM.out.2 (.inr e))))
        rw [e] at q0
        clear e
        go_wp2
        go_ret
        exact ⟨ret_bool HR.out.symm, rfl⟩
      · have hne : (S[j].h == x) = false := beq_eq_false_iff_ne.2 e
        have HO2 : Hid (x ∉ (S.map Sec.h).take (j + 1)) := hid (fun h => (HM.out.1 h).elim HO.out e)
        generalize S[j].h = y at *
        clear e
        go_wp2
        go_round
        case rel => exact ⟨j + 1, by omega, by go_num, HO2⟩
        case measure => simp [intOf]; omega
    · have e : n = j := by omega
      subst e
      have hlt : ¬ (n : Int) < n := by omega
      have HR : Hid (isH (S.map Sec.h) x = false) := hid (decide_eq_false (by have := HO.out; rwa [HN.out, show S.length = (S.map Sec.h).length by rw [List.length_map], List.take_length] at this))
      go_wp2
      go_ret
      exact ⟨ret_bool HR.out.symm, rfl⟩
set_option maxHeartbeats 1000000 in
theorem name_is_any {w : World} {g : Nat} {S : List Sec} {N : List Nam} {F : Nat → Prop} (h : RVt w g S N F) (hn : N.length ≤ 100000) (x : Int) :
    Calls Try.prog 29 #[.pointer (some ⟨g, 0, none⟩), .int .i64 x] w fun e w' => e = .returned (.bool (isH (N.map Nam.h) x)) ∧ w' = w := by
  obtain ⟨A1, c1, A2, c2, -, k0, -, r1⟩ := h.reads
  obtain ⟨n, hn'⟩ : ∃ n, n = N.length := ⟨_, rfl⟩
  rw [← hn'] at k0 hn
  have HN := hid hn'
  clear h hn'
  go_enter Try.func29, Try.ntmps29
  go_wp2
  go_loop [5] (fun i => ∃ j : Nat, j ≤ n ∧ i = .int .i64 j ∧ Hid (x ∉ (N.map Nam.h).take j)) (fun i => n - (intOf i).toNat)
  case atStart => exact ⟨0, by omega, rfl, hid (by simp)⟩
  case round =>
    obtain ⟨j, hj, rfl, HO⟩ := hrel
    by_cases hjn : j < n
    · have hjl : j < N.length := by rw [← HN.out]; exact hjn
      have hjm : j < (N.map Nam.h).length := by rw [List.length_map]; exact hjl
      obtain ⟨b, off, rfl, q0, -⟩ := r1.nam hjl
      have hlt : (j : Int) < n := by omega
      have hz : (0 : Int) ≤ j := by omega
      have HM := hid (mem_take_snoc hjm (x := x))
      rw [List.getElem_map] at HM
      by_cases e : N[j].h = x
      · have HR : Hid (isH (N.map Nam.h) x = true) := hid (decide_eq_true (List.mem_of_mem_take (HM.out.2 (.inr e))))
        rw [e] at q0
        clear e
        go_wp2
        go_ret
        exact ⟨ret_bool HR.out.symm, rfl⟩
      · have hne : (N[j].h == x) = false := beq_eq_false_iff_ne.2 e
        have HO2 : Hid (x ∉ (N.map Nam.h).take (j + 1)) := hid (fun h => (HM.out.1 h).elim HO.out e)
        generalize N[j].h = y at *
        clear e
        go_wp2
        go_round
        case rel => exact ⟨j + 1, by omega, by go_num, HO2⟩
        case measure => simp [intOf]; omega
    · have e : n = j := by omega
      subst e
      have hlt : ¬ (n : Int) < n := by omega
      have HR : Hid (isH (N.map Nam.h) x = false) := hid (decide_eq_false (by have := HO.out; rwa [HN.out, show N.length = (N.map Nam.h).length by rw [List.length_map], List.take_length] at this))
      go_wp2
      go_ret
      exact ⟨ret_bool HR.out.symm, rfl⟩

/-! ### Size, Open -/
theorem find_skip {S : List Sec} {x : Int} {j : Nat} (h : ∀ i (hi : i < S.length), i < j → S[i].h ≠ x) (hj : j < S.length) (e : S[j].h = x) : findS S x = some S[j] := by
  induction S generalizing j with
  | nil => simp at hj
  | cons s S ih =>
    unfold findS
    cases j with
    | zero => rw [List.find?_cons_of_pos (by simpa using e)]; rfl
    | succ j =>
      have h0 := h 0 (by simp) (by omega)
      rw [List.find?_cons_of_neg (by simpa using h0)]
      exact ih (fun i hi hij => by have := h (i + 1) (by simpa using hi) (by omega); simpa using this) (by simpa using hj) (by simpa using e)
theorem find_all {S : List Sec} {x : Int} (h : ∀ i (hi : i < S.length), S[i].h ≠ x) : findS S x = none := by
  refine findS_none.2 (fun hm => ?_)
  obtain ⟨s, hs, e⟩ := List.mem_map.1 hm
  obtain ⟨i, hi, rfl⟩ := List.mem_iff_getElem.1 hs
  exact h i hi e
theorem findN_skip {N : List Nam} {k : Int} {l : ByteArray} {j : Nat} (h : ∀ i (hi : i < N.length), i < j → ¬ (N[i].key = k ∧ N[i].label = l)) (hj : j < N.length) (e : N[j].key = k ∧ N[j].label = l) : findN N k l = some N[j] := by
  induction N generalizing j with
  | nil => simp at hj
  | cons s N ih =>
    unfold findN
    cases j with
    | zero => rw [List.find?_cons_of_pos (by simpa using e)]; rfl
    | succ j =>
      have h0 := h 0 (by simp) (by omega)
      rw [List.find?_cons_of_neg (by simpa using h0)]
      exact ih (fun i hi hij => by have := h (i + 1) (by simpa using hi) (by omega); simpa using this) (by simpa using hj) (by simpa using e)
theorem findN_all {N : List Nam} {k : Int} {l : ByteArray} (h : ∀ i (hi : i < N.length), ¬ (N[i].key = k ∧ N[i].label = l)) : findN N k l = none := by
  refine findN_none.2 (fun m hm => ?_)
  obtain ⟨i, hi, rfl⟩ := List.mem_iff_getElem.1 hm
  exact h i hi
set_option maxHeartbeats 1000000 in
theorem rsize_any {w : World} {g : Nat} {S : List Sec} {N : List Nam} {F : Nat → Prop} (h : RVt w g S N F) (hn : S.length ≤ 100000) (x : Int) :
    Calls Try.prog 20 #[.pointer (some ⟨g, 0, none⟩), .int .i64 x] w fun e w' => e = .returned (.int .i64 (sizeV S x)) ∧ w' = w := by
  obtain ⟨A1, c1, A2, c2, k0, -, r1, -⟩ := h.reads
  obtain ⟨n, hn'⟩ : ∃ n, n = S.length := ⟨_, rfl⟩
  rw [← hn'] at k0 hn
  have HN := hid hn'
  clear h hn'
  go_enter Try.func20, Try.ntmps20
  go_wp2
  go_loop [5] (fun i => ∃ j : Nat, j ≤ n ∧ i = .int .i64 j ∧ Hid (∀ i (hi : i < S.length), i < j → S[i].h ≠ x)) (fun i => n - (intOf i).toNat)
  case atStart => exact ⟨0, by omega, rfl, hid (fun i _ h => absurd h (by omega))⟩
  case round =>
    obtain ⟨j, hj, rfl, HO⟩ := hrel
    by_cases hjn : j < n
    · have hjl : j < S.length := by rw [← HN.out]; exact hjn
      obtain ⟨b, off, rfl, q0, -, -, q3⟩ := r1.sec hjl
      have hlt : (j : Int) < n := by omega
      have hz : (0 : Int) ≤ j := by omega
      by_cases e : S[j].h = x
      · have HR : Hid (sizeV S x = sizeI (bucketI S[j].plain.size)) := by
          show _ = _
          unfold sizeV
          rw [find_skip HO.out hjl e]
        rw [e] at q0
        clear e
        generalize S[j].plain = p at *
        go_wp2_with fail
        refine (ref5Bucket _ _).mono ?_
        rintro e w1 ⟨rfl, rfl⟩
        go_wp2_with fail
        refine (ref5Size _ _).mono ?_
        rintro e w2 ⟨rfl, rfl⟩
        go_wp2
        go_ret
        exact ⟨ret_int HR.out.symm, rfl⟩
      · have hne : (S[j].h == x) = false := beq_eq_false_iff_ne.2 e
        have HO2 : Hid (∀ i (hi : i < S.length), i < j + 1 → S[i].h ≠ x) := hid (fun i hi hij => by
          by_cases ej : i = j
          · subst ej; exact e
          · exact HO.out i hi (by omega))
        generalize S[j].h = y at *
        clear e
        go_wp2
        go_round
        case rel => exact ⟨j + 1, by omega, by go_num, HO2⟩
        case measure => simp [intOf]; omega
    · have e : n = j := by omega
      subst e
      have hlt : ¬ (n : Int) < n := by omega
      have HR : Hid (sizeV S x = 0) := by
        show _ = _
        unfold sizeV
        rw [find_all (fun i hi => HO.out i hi (by rw [HN.out]; exact hi))]
      go_wp2
      go_ret
      exact ⟨ret_int HR.out.symm, rfl⟩
end Go.Proofs.Ytdejhpinmkbngaa
