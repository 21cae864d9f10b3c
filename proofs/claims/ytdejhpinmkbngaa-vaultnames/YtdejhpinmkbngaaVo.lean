/- VaultNames: the walk. -/
import Derived.Test.YtdejhpinmkbngaaVn
import Derived.Deep.Cut
namespace Go.Proofs.Ytdejhpinmkbngaa
open Go.RowKit Go.Maps

theorem xor_inj {a b k : Int} (ha : I64 a) (hb : I64 b) (h : bits .xor .i64 a k = bits .xor .i64 b k) : a = b := by
  have h1 : IntKind.i64.wrap ((BitVec.ofInt 64 a ^^^ BitVec.ofInt 64 k).toNat : Int) = IntKind.i64.wrap ((BitVec.ofInt 64 b ^^^ BitVec.ofInt 64 k).toNat : Int) := h
  have l1 := (BitVec.ofInt 64 a ^^^ BitVec.ofInt 64 k).isLt
  have l2 := (BitVec.ofInt 64 b ^^^ BitVec.ofInt 64 k).isLt
  rw [IntKind.wrap_i64, IntKind.wrap_i64] at h1
  have h2 : BitVec.ofInt 64 a ^^^ BitVec.ofInt 64 k = BitVec.ofInt 64 b ^^^ BitVec.ofInt 64 k := BitVec.eq_of_toNat_eq (by omega)
  have h3 := congrArg (· ^^^ BitVec.ofInt 64 k) h2
  simp only [BitVec.xor_assoc, BitVec.xor_self, BitVec.xor_zero] at h3
  have h4 := congrArg BitVec.toNat h3
  rw [BitVec.toNat_ofInt, BitVec.toNat_ofInt] at h4
  unfold I64 at ha hb
  omega

/-! ### Two vaults, and a row of names -/
def StN (w0 w : World) (g g' : Nat) (N N' : List Nam) (v : Value) (ns : List Int) : Prop := St2 w0 w g [] N g' [] N' (fun i => v.ownBlock = some i) ∧ w.ownsRow w0.heap.size 3 1 v ns.length (intV ns)
section
variable {w0 w w' : World} {g g' : Nat} {N N' : List Nam} {v : Value} {ns : List Int}
theorem StN.bel (h : StN w0 w g g' N N' v ns) : Below w0.heap.size w0 w := h.1.bel
theorem StN.below (h : StN w0 w g g' N N' v ns) (hb : Below w.heap.size w w') : StN w0 w' g g' N N' v ns := ⟨h.1.below hb, row_keep' h.2 (fun i hi => hb.block i ((h.2.lt i hi).2))⟩
theorem StN.drew (h : StN w0 w g g' N N' v ns) : StN w0 w.drew g g' N N' v ns := h.below ⟨rfl, rfl, rfl, Nat.le_refl _, fun _ _ => rfl⟩
theorem StN.drewN (h : StN w0 w g g' N N' v ns) (q : Nat) : StN w0 (w.drewN q) g g' N N' v ns := h.below ⟨rfl, rfl, rfl, Nat.le_refl _, fun _ _ => rfl⟩
theorem stn_name (h : StN w0 w g g' N N' v ns) {k : Int} {l : ByteArray} (x : Int) (hk : I64 k) (hs : l.size ≤ 281474976710656) (hl : N.length < 16384) :
    Calls Try.prog 17 #[.pointer (some ⟨g, 0, none⟩), .int .i64 k, .string l, .int .i64 x] w fun e w' => e = .returned (.tuple #[.int .i64 (nameI N k l x), .int .i64 0]) ∧ StN w0 w' g g' (nameN N k l x) N' v ns := by
  refine (st2_name h.1 x hk hs hl).mono ?_
  rintro e w' ⟨rfl, h1, h2⟩
  exact ⟨rfl, h1, row_keep' h.2 h2⟩
theorem stn_name2 (h : StN w0 w g g' N N' v ns) {k : Int} {l : ByteArray} (x : Int) (hk : I64 k) (hs : l.size ≤ 281474976710656) (hl : N'.length < 16384) :
    Calls Try.prog 17 #[.pointer (some ⟨g', 0, none⟩), .int .i64 k, .string l, .int .i64 x] w fun e w' => e = .returned (.tuple #[.int .i64 (nameI N' k l x), .int .i64 0]) ∧ StN w0 w' g g' N (nameN N' k l x) v ns := by
  refine (st2_name h.1.swap x hk hs hl).mono ?_
  rintro e w' ⟨rfl, h1, h2⟩
  exact ⟨rfl, h1.swap, row_keep' h.2 h2⟩
theorem StN.form (h : StN w0 w g g' N N' v ns) : ∃ A c, v = .slice A ns.length c := by
  obtain ⟨-, A', c', rfl, -⟩ := own_form h.2
  exact ⟨A', c', rfl⟩
theorem StN.rd {A : Option Addr} {n c : Nat} (h : StN w0 w g g' N N' (.slice A n c) ns) : n = ns.length ∧ Rd w A (intV ns) := by
  obtain ⟨-, A', c', e, -⟩ := own_form h.2
  injection e with e2 e3 e4
  subst e2 e3 e4
  exact ⟨rfl, Rd.of_own h.2⟩
/-- ns = append(ns, u) -/
theorem wpAppN {ops : Array Oper} {rest : List Oper} {o : Oper} {a : Act} {Q : Exit → Act → World → Prop} {A : Option Addr} {n c : Nat} (h : StN w0 w g g' N N' (.slice A n c) ns) (hn : ns.length ≤ 1000) (hgd : o.guard = none) (s x : Operand) (ho : o.op = .call { callee := .builtin .append, args := #[s, x], argTypes := #[42, 42] })
    (he : a.eval s = .slice A n c) (ad : Addr) (u : Int) (hx : a.eval x = .slice (some ad) 1 1) (hu : w.cell? ad = some (.int .i64 u))
    (k : ∀ A' c' w', StN w0 w' g g' N N' (.slice A' (n + 1) c') (ns ++ [u]) → wpList Try.prog ops Q rest (a.put o.dst (.slice A' (n + 1) c')) w') : wpList Try.prog ops Q (o :: rest) a w := by
  have hnl : n = ns.length := h.rd.1
  subst hnl
  refine wpApp1 w hgd s x 42 ho w0.heap.size 3 (.int .i64 0) 8 Try.underlying42 Try.infoI rfl A ns.length c (intV ns) he h.2 ad (.int .i64 u) hx hu rfl (by omega) h.bel.size (by unfold maxLen; omega) ?_
  intro A' c' w' hr hg hloc
  refine k A' c' w' ⟨?_, by rw [List.length_append, intV_append]; exact hr⟩
  refine h.1.turned (Fr.of_grown hg (fun k hk => hk)) (fun i hi => (h.2.lt i hi).1) (fun i hi => ⟨?_, (hr.lt i hi).2⟩)
  rcases hloc with e | e
  · exact .inl (e ▸ hi)
  · rw [e] at hi
    injection hi with hi
    exact .inr (by omega)
end
def NInv (ls : List Cal) (j : Nat) (N : List Nam) (ns : List Int) : Prop :=
  ns.length = j ∧ N.length ≤ j ∧ (N.map Nam.h).Nodup ∧ (∀ m ∈ N, I64 m.key) ∧ ∀ q (_ : q < ns.length) (_ : q < ls.length), (findN N ls[q].key ls[q].ad).map Nam.h = some ns[q]
theorem ninv_zero (ls : List Cal) : NInv ls 0 [] [] := ⟨rfl, by simp, by simp, by simp, fun q h => by simp at h⟩
theorem ninv_step {ls : List Cal} {j : Nat} {N : List Nam} {ns : List Int} (h : NInv ls j N ns) (hj : j < ls.length) (hk : I64 ls[j].key) (hn : j ≤ 100) :
    NInv ls (j + 1) (nameN N ls[j].key ls[j].ad ls[j].num) (ns ++ [nameI N ls[j].key ls[j].ad ls[j].num]) := by
  obtain ⟨h1, h2, h3, h4, h5⟩ := h
  refine ⟨by rw [List.length_append, h1]; rfl, by have := nameN_len N ls[j].key ls[j].ad ls[j].num; omega, name_nodup h3 (by omega) _ _ _, name_keys h4 hk _ _, fun q hq hq' => ?_⟩
  rw [List.length_append, List.length_singleton] at hq
  by_cases e : q < ns.length
  · rw [List.getElem_append_left e]
    obtain ⟨m, hm, hmh⟩ := Option.map_eq_some_iff.1 (h5 q e hq')
    rw [name_keeps hm, Option.map_some, hmh]
  · have e : q = j := by omega
    subst e
    rw [name_self, List.getElem_append_right (by omega)]
    simp [h1]

set_option maxHeartbeats 1000000 in
set_option maxRecDepth 20000 in
theorem vaultNames_walk (A : Option Addr) (c : Nat) (ls : List Cal) (k : Int) (p : ByteArray) (w : World) (hr : Rd w A (calV ls)) (hlc : ls.length ≤ c) (hc : c * 56 ≤ 140737488351232) (hok : ∀ x ∈ ls, CalOk x) (_ : (Lit.int .i64 k).wf = true) (ha0 : p.size ≤ 140737488351232) :
    Calls Try.prog 6 #[.slice A ls.length c, .int .i64 k, .string p] w fun e w' => e = .returned (.bool true) ∧ Below w.heap.size w w' := by
  have HO := hid hok
  clear hok
  obtain ⟨n, hn⟩ : ∃ n, n = ls.length := ⟨_, rfl⟩
  rw [← hn] at hlc ⊢
  have HN := hid hn
  clear hn
  have hnb : n ≤ 140737488355328 := by omega
  go_enter Try.func6, Try.ntmps6
  go_wp2_with fail
  refine (small_any _).mono ?_
  rintro e w1 ⟨rfl, b1⟩
  have hr1 := hr.below b1
  go_wp2_with fail
  refine (few_any A n c ls _ HN.out.symm hnb hr1).mono ?_
  rintro e wu ⟨rfl, rfl⟩
  clear hr
  go_wp2_with fail
  refine (st_new _).mono ?_
  rintro e w2 ⟨g, rfl, h2'⟩
  go_wp2_with fail
  refine (st2_new h2').mono ?_
  rintro e w3 ⟨g', rfl, h2⟩
  clear h2'
  cases hf : fewB ls
  · clear hf
    have b2 := below2 b1 h2.bel
    go_wp2
    go_ret
    exact ⟨rfl, b2⟩
  have HF := hid hf
  have hn100 : n ≤ 100 := by have := few_len hf; have := HN.out; omega
  clear hf
  by_cases ha : 100 < p.size
  · have ha' : (100 : Int) < p.size := by omega
    have b2 := below2 b1 h2.bel
    go_wp2
    go_ret
    exact ⟨rfl, b2⟩
  have ha' : ¬ (100 : Int) < p.size := by omega
  go_wp2_with fail
  go_loopw [11, 12] (fun v i wr => ∃ (j : Nat) (N : List Nam) (ns : List Int), j ≤ n ∧ i = .int .i64 j ∧ StN wu wr g g' N (N.map (twN (fun a => bits .xor .i64 a k) p)) v ns ∧ Hid (NInv ls j N ns)) (fun _ i _ => n - (intOf i).toNat)
  case atStart => exact ⟨0, [], [], by omega, rfl, ⟨h2.beside (Below.refl _ _) (fun i hi => by simp [Value.ownBlock] at hi), World.ownsRow_nil _ _ _ _⟩, ninv_zero ls⟩
  case round =>
    clear h2
    obtain ⟨j, N, ns, hj, rfl, h3, HI⟩ := hrel
    by_cases hjn : j < n
    · have hz : (0 : Int) ≤ j := by omega
      have hlt : (j : Int) < n := by omega
      have hjl : j < ls.length := by rw [← HN.out]; exact hjn
      obtain ⟨b, off, rfl, hb0, g0, g1, g2, g3, g4⟩ := hr1.call hjl
      have hsx := few_size HF.out hjl
      have hxo := HO.out _ (List.getElem_mem hjl)
      have HST := hid (ninv_step HI.out hjl hxo.2.1 (by omega))
      have hNl : N.length ≤ 100 := by have := HI.out.2.1; omega
      have hnsl : ns.length = j := HI.out.1
      have HTW := hid (name_tw (fun a b ha hb h => xor_inj ha hb h) p N HI.out.2.2.2.1 hxo.2.1 ls[j].ad ls[j].num (f := fun a => bits .xor .i64 a k))
      have HAL : Hid (∀ q (_ : q < ns.length) (_ : q < ls.length), (ns[q] = nameI N ls[j].key ls[j].ad ls[j].num) ↔ (ls[q].key = ls[j].key ∧ ls[q].ad = ls[j].ad)) := hid (fun q h1 h2 => name_alike HI.out.2.2.1 (by omega) (HI.out.2.2.2.2 q h1 h2))
      have hap : (p ++ ls[j].ad).size ≤ 281474976710656 := by rw [ByteArray.size_append]; omega
      obtain ⟨x, hx⟩ : ∃ x, ls[j] = x := ⟨_, rfl⟩
      rw [hx] at g0 g1 g2 g3 g4 hsx hxo HST HTW HAL hap
      clear hx
      have e1 := (h3.bel.cell (p := ⟨b, off + j * 5 + 1, none⟩) hb0).trans g1
      have e2 := (h3.bel.cell (p := ⟨b, off + j * 5 + 2, none⟩) hb0).trans g2
      have e3 := (h3.bel.cell (p := ⟨b, off + j * 5 + 3, none⟩) hb0).trans g3
      go_upto_region 11 with (fail)
      refine wp_region_held_drew (S := fun w' => w'.cell? ⟨b, off + j * 5 + 1, none⟩ = some (.int .i64 x.key) ∧ w'.cell? ⟨b, off + j * 5 + 3, none⟩ = some (.string x.ad) ∧ w'.cell? ⟨b, off + j * 5 + 2, none⟩ = some (.int .i64 x.num)) (by kernel_rfl) ⟨e1, e3, e2⟩ (fun hHeld => ?_)
      refine wpAnyH_take (i := 0) (oi := ⟨_, _, _, _, _, _⟩) (v := ?_) rfl (by kernel_rfl) (by kernel_rfl) (by kernel_rfl) (fun _ _ _ h => h) (Or.inl ⟨by rfl, ?_⟩) (by assumption) ?_
      rotate_left
      · intro w hSw; (try dsimp only at hSw); go_simp; (try (with_reducible rfl))
      try simp only [Act.put, List.setIfInBounds_toArray, List.set_cons_zero, List.set_cons_succ]
      refine wpAnyH_take (i := 1) (oi := ⟨_, _, _, _, _, _⟩) (v := ?_) rfl (by kernel_rfl) (by kernel_rfl) (by kernel_rfl) (fun _ _ _ h => h) (Or.inl ⟨by rfl, ?_⟩) (by assumption) ?_
      rotate_left
      · intro w hSw; (try dsimp only at hSw); go_simp; (try (with_reducible rfl))
      try simp only [Act.put, List.setIfInBounds_toArray, List.set_cons_zero, List.set_cons_succ]
      refine wpAnyH_take (i := 2) (oi := ⟨_, _, _, _, _, _⟩) (v := ?_) rfl (by kernel_rfl) (by kernel_rfl) (by kernel_rfl) (fun _ _ _ h => h) (Or.inl ⟨by rfl, ?_⟩) (by assumption) ?_
      rotate_left
      · intro w hSw; (try dsimp only at hSw); go_simp; (try (with_reducible rfl))
      try simp only [Act.put, List.setIfInBounds_toArray, List.set_cons_zero, List.set_cons_succ]
      refine wpAnyH_take (i := 3) (oi := ⟨_, _, _, _, _, _⟩) (v := ?_) rfl (by kernel_rfl) (by kernel_rfl) (by kernel_rfl) (fun _ _ _ h => h) (Or.inl ⟨by rfl, ?_⟩) (by assumption) ?_
      rotate_left
      · intro w hSw; (try dsimp only at hSw); go_simp; (try (with_reducible rfl))
      try simp only [Act.put, List.setIfInBounds_toArray, List.set_cons_zero, List.set_cons_succ]
      refine wpAnyH_take (i := 4) (oi := ⟨_, _, _, _, _, _⟩) (v := ?_) rfl (by kernel_rfl) (by kernel_rfl) (by kernel_rfl) (fun _ _ _ h => h) (Or.inl ⟨by rfl, ?_⟩) (by assumption) ?_
      rotate_left
      · intro w hSw; (try dsimp only at hSw); go_simp; (try (with_reducible rfl))
      try simp only [Act.put, List.setIfInBounds_toArray, List.set_cons_zero, List.set_cons_succ]
      refine wpAnyH_take (i := 5) (oi := ⟨_, _, _, _, _, _⟩) (v := ?_) rfl (by kernel_rfl) (by kernel_rfl) (by kernel_rfl) (fun _ _ _ h => h) (Or.inl ⟨by rfl, ?_⟩) (by assumption) ?_
      rotate_left
      · intro w hSw; (try dsimp only at hSw); go_simp; (try (with_reducible rfl))
      try simp only [Act.put, List.setIfInBounds_toArray, List.set_cons_zero, List.set_cons_succ]
      refine wpAnyH_take (i := 6) (oi := ⟨_, _, _, _, _, _⟩) (v := ?_) rfl (by kernel_rfl) (by kernel_rfl) (by kernel_rfl) (fun _ _ _ h => h) (Or.inl ⟨by rfl, ?_⟩) (by assumption) ?_
      rotate_left
      · intro w hSw; (try dsimp only at hSw); go_simp; (try (with_reducible rfl))
      try simp only [Act.put, List.setIfInBounds_toArray, List.set_cons_zero, List.set_cons_succ]
      refine wpAnyH_take (i := 7) (oi := ⟨_, _, _, _, _, _⟩) (v := ?_) rfl (by kernel_rfl) (by kernel_rfl) (by kernel_rfl) (fun _ _ _ h => h) (Or.inl ⟨by rfl, ?_⟩) (by assumption) ?_
      rotate_left
      · intro w hSw; (try dsimp only at hSw); go_simp; (try (with_reducible rfl))
      try simp only [Act.put, List.setIfInBounds_toArray, List.set_cons_zero, List.set_cons_succ]
      refine wpAnyH_take (i := 8) (oi := ⟨_, _, _, _, _, _⟩) (v := ?_) rfl (by kernel_rfl) (by kernel_rfl) (by kernel_rfl) (fun _ _ _ h => h) (Or.inl ⟨by rfl, ?_⟩) (by assumption) ?_
      rotate_left
      · intro w hSw; (try dsimp only at hSw); go_simp; (try (with_reducible rfl))
      try simp only [Act.put, List.setIfInBounds_toArray, List.set_cons_zero, List.set_cons_succ]
      refine wpAnyH_take (i := 9) (oi := ⟨_, _, _, _, _, _⟩) (v := ?_) rfl (by kernel_rfl) (by kernel_rfl) (by kernel_rfl) (fun _ _ _ h => h) (Or.inl ⟨by rfl, ?_⟩) (by assumption) ?_
      rotate_left
      · intro w hSw; (try dsimp only at hSw); go_simp; (try (with_reducible rfl))
      try simp only [Act.put, List.setIfInBounds_toArray, List.set_cons_zero, List.set_cons_succ]
      refine wpAnyH_take (i := 10) (oi := ⟨_, _, _, _, _, _⟩) (v := ?_) rfl (by kernel_rfl) (by kernel_rfl) (by kernel_rfl) (fun _ _ _ h => h) (Or.inl ⟨by rfl, ?_⟩) (by assumption) ?_
      rotate_left
      · intro w hSw; (try dsimp only at hSw); go_simp; (try (with_reducible rfl))
      try simp only [Act.put, List.setIfInBounds_toArray, List.set_cons_zero, List.set_cons_succ]
      refine wpAnyH_take (i := 11) (oi := ⟨_, _, _, _, _, _⟩) (v := ?_) rfl (by kernel_rfl) (by kernel_rfl) (by kernel_rfl) (fun _ _ _ h => h) (Or.inl ⟨by rfl, ?_⟩) (by assumption) ?_
      rotate_left
      · intro w hSw; (try dsimp only at hSw); go_simp; (try (with_reducible rfl))
      try simp only [Act.put, List.setIfInBounds_toArray, List.set_cons_zero, List.set_cons_succ]
      refine wpAnyH_take (i := 12) (oi := ⟨_, _, _, _, _, _⟩) (v := ?_) rfl (by kernel_rfl) (by kernel_rfl) (by kernel_rfl) (fun _ _ _ h => h) (Or.inl ⟨by rfl, ?_⟩) (by assumption) ?_
      rotate_left
      · intro w hSw; (try dsimp only at hSw); go_simp; (try (with_reducible rfl))
      try simp only [Act.put, List.setIfInBounds_toArray, List.set_cons_zero, List.set_cons_succ]
      refine wpAnyH_take (i := 13) (oi := ⟨_, _, _, _, _, _⟩) (v := ?_) rfl (by kernel_rfl) (by kernel_rfl) (by kernel_rfl) (fun _ _ _ h => h) (Or.inl ⟨by rfl, ?_⟩) (by assumption) ?_
      rotate_left
      · intro w hSw; (try dsimp only at hSw); go_simp; (try (with_reducible rfl))
      try simp only [Act.put, List.setIfInBounds_toArray, List.set_cons_zero, List.set_cons_succ]
      refine wpAnyH_take (i := 14) (oi := ⟨_, _, _, _, _, _⟩) (v := ?_) rfl (by kernel_rfl) (by kernel_rfl) (by kernel_rfl) (fun _ _ _ h => h) (Or.inl ⟨by rfl, ?_⟩) (by assumption) ?_
      rotate_left
      · intro w hSw; (try dsimp only at hSw); go_simp; (try (with_reducible rfl))
      try simp only [Act.put, List.setIfInBounds_toArray, List.set_cons_zero, List.set_cons_succ]
      refine wpAnyH_take (i := 15) (oi := ⟨_, _, _, _, _, _⟩) (v := ?_) rfl (by kernel_rfl) (by kernel_rfl) (by kernel_rfl) (fun _ _ _ h => h) (Or.inl ⟨by rfl, ?_⟩) (by assumption) ?_
      rotate_left
      · intro w hSw; (try dsimp only at hSw); go_simp; (try (with_reducible rfl))
      try simp only [Act.put, List.setIfInBounds_toArray, List.set_cons_zero, List.set_cons_succ]
      refine wpAnyH_ready (rs := [16]) (by kernel_rfl) (by simp) ?_
      refine AllReadyH.cons (o := ⟨_, _, _, _, _, _⟩) rfl (fun K hK => ?_) AllReadyH.nil
      go_simp
      refine (stn_name h3.drew x.num hxo.2.1 (by omega) (by omega)).mono ?_
      rintro e w4 ⟨rfl, h4⟩
      have f1 := (h4.bel.cell (p := ⟨b, off + j * 5 + 1, none⟩) hb0).trans g1
      have f3 := (h4.bel.cell (p := ⟨b, off + j * 5 + 3, none⟩) hb0).trans g3
      have f2 := (h4.bel.cell (p := ⟨b, off + j * 5 + 2, none⟩) hb0).trans g2
      refine hK.out _ _ ⟨f1, f3, f2⟩ (fun hHeld => ?_)
      clear hK K
      try simp only [Act.put, List.setIfInBounds_toArray, List.set_cons_zero, List.set_cons_succ]
      refine wpAnyH_take (i := 17) (oi := ⟨_, _, _, _, _, _⟩) (v := ?_) rfl (by kernel_rfl) (by kernel_rfl) (by kernel_rfl) (fun _ _ _ h => h) (Or.inl ⟨by rfl, ?_⟩) (by assumption) ?_
      rotate_left
      · intro w hSw; (try dsimp only at hSw); go_simp; (try (with_reducible rfl))
      try simp only [Act.put, List.setIfInBounds_toArray, List.set_cons_zero, List.set_cons_succ]
      refine wpAnyH_take (i := 18) (oi := ⟨_, _, _, _, _, _⟩) (v := ?_) rfl (by kernel_rfl) (by kernel_rfl) (by kernel_rfl) (fun _ _ _ h => h) (Or.inl ⟨by rfl, ?_⟩) (by assumption) ?_
      rotate_left
      · intro w hSw; (try dsimp only at hSw); go_simp; (try (with_reducible rfl))
      try simp only [Act.put, List.setIfInBounds_toArray, List.set_cons_zero, List.set_cons_succ]
      refine wpAnyH_take (i := 19) (oi := ⟨_, _, _, _, _, _⟩) (v := ?_) rfl (by kernel_rfl) (by kernel_rfl) (by kernel_rfl) (fun _ _ _ h => h) (Or.inl ⟨by rfl, ?_⟩) (by assumption) ?_
      rotate_left
      · intro w hSw; (try dsimp only at hSw); go_simp; (try (with_reducible rfl))
      try simp only [Act.put, List.setIfInBounds_toArray, List.set_cons_zero, List.set_cons_succ]
      refine wpAnyH_take (i := 20) (oi := ⟨_, _, _, _, _, _⟩) (v := ?_) rfl (by kernel_rfl) (by kernel_rfl) (by kernel_rfl) (fun _ _ _ h => h) (Or.inl ⟨by rfl, ?_⟩) (by assumption) ?_
      rotate_left
      · intro w hSw; (try dsimp only at hSw); go_simp; (try (with_reducible rfl))
      try simp only [Act.put, List.setIfInBounds_toArray, List.set_cons_zero, List.set_cons_succ]
      refine wpAnyH_take (i := 21) (oi := ⟨_, _, _, _, _, _⟩) (v := ?_) rfl (by kernel_rfl) (by kernel_rfl) (by kernel_rfl) (fun _ _ _ h => h) (Or.inl ⟨by rfl, ?_⟩) (by assumption) ?_
      rotate_left
      · intro w hSw; (try dsimp only at hSw); go_simp; (try (with_reducible rfl))
      try simp only [Act.put, List.setIfInBounds_toArray, List.set_cons_zero, List.set_cons_succ]
      refine wpAnyH_done (by kernel_rfl) ?_ _
      clear h3 e1 e2 e3
      have hcat : ¬ 9223372036854775807 < p.size + x.ad.size := by omega
      go_upto_region 12 with (fail)
      refine wp_region_held_drew (S := fun w' => w'.cell? ⟨b, off + j * 5 + 1, none⟩ = some (.int .i64 x.key) ∧ w'.cell? ⟨b, off + j * 5 + 3, none⟩ = some (.string x.ad) ∧ w'.cell? ⟨b, off + j * 5 + 2, none⟩ = some (.int .i64 x.num)) (by kernel_rfl) ⟨f1, f3, f2⟩ (fun hHeld => ?_)
      refine wpAnyH_take (i := 0) (oi := ⟨_, _, _, _, _, _⟩) (v := ?_) rfl (by kernel_rfl) (by kernel_rfl) (by kernel_rfl) (fun _ _ _ h => h) (Or.inl ⟨by rfl, ?_⟩) (by assumption) ?_
      rotate_left
      · intro w hSw; (try dsimp only at hSw); go_simp; (try (with_reducible rfl))
      try simp only [Act.put, List.setIfInBounds_toArray, List.set_cons_zero, List.set_cons_succ]
      refine wpAnyH_take (i := 1) (oi := ⟨_, _, _, _, _, _⟩) (v := ?_) rfl (by kernel_rfl) (by kernel_rfl) (by kernel_rfl) (fun _ _ _ h => h) (Or.inl ⟨by rfl, ?_⟩) (by assumption) ?_
      rotate_left
      · intro w hSw; (try dsimp only at hSw); go_simp; (try (with_reducible rfl))
      try simp only [Act.put, List.setIfInBounds_toArray, List.set_cons_zero, List.set_cons_succ]
      refine wpAnyH_take (i := 2) (oi := ⟨_, _, _, _, _, _⟩) (v := ?_) rfl (by kernel_rfl) (by kernel_rfl) (by kernel_rfl) (fun _ _ _ h => h) (Or.inl ⟨by rfl, ?_⟩) (by assumption) ?_
      rotate_left
      · intro w hSw; (try dsimp only at hSw); go_simp; (try (with_reducible rfl))
      try simp only [Act.put, List.setIfInBounds_toArray, List.set_cons_zero, List.set_cons_succ]
      refine wpAnyH_take (i := 3) (oi := ⟨_, _, _, _, _, _⟩) (v := ?_) rfl (by kernel_rfl) (by kernel_rfl) (by kernel_rfl) (fun _ _ _ h => h) (Or.inl ⟨by rfl, ?_⟩) (by assumption) ?_
      rotate_left
      · intro w hSw; (try dsimp only at hSw); go_simp; (try (with_reducible rfl))
      try simp only [Act.put, List.setIfInBounds_toArray, List.set_cons_zero, List.set_cons_succ]
      refine wpAnyH_take (i := 4) (oi := ⟨_, _, _, _, _, _⟩) (v := ?_) rfl (by kernel_rfl) (by kernel_rfl) (by kernel_rfl) (fun _ _ _ h => h) (Or.inl ⟨by rfl, ?_⟩) (by assumption) ?_
      rotate_left
      · intro w hSw; (try dsimp only at hSw); go_simp; (try (with_reducible rfl))
      try simp only [Act.put, List.setIfInBounds_toArray, List.set_cons_zero, List.set_cons_succ]
      refine wpAnyH_take (i := 5) (oi := ⟨_, _, _, _, _, _⟩) (v := ?_) rfl (by kernel_rfl) (by kernel_rfl) (by kernel_rfl) (fun _ _ _ h => h) (Or.inl ⟨by rfl, ?_⟩) (by assumption) ?_
      rotate_left
      · intro w hSw; (try dsimp only at hSw); go_simp; (try (with_reducible rfl))
      try simp only [Act.put, List.setIfInBounds_toArray, List.set_cons_zero, List.set_cons_succ]
      refine wpAnyH_take (i := 6) (oi := ⟨_, _, _, _, _, _⟩) (v := ?_) rfl (by kernel_rfl) (by kernel_rfl) (by kernel_rfl) (fun _ _ _ h => h) (Or.inl ⟨by rfl, ?_⟩) (by assumption) ?_
      rotate_left
      · intro w hSw; (try dsimp only at hSw); go_simp; (try (with_reducible rfl))
      try simp only [Act.put, List.setIfInBounds_toArray, List.set_cons_zero, List.set_cons_succ]
      refine wpAnyH_take (i := 7) (oi := ⟨_, _, _, _, _, _⟩) (v := ?_) rfl (by kernel_rfl) (by kernel_rfl) (by kernel_rfl) (fun _ _ _ h => h) (Or.inl ⟨by rfl, ?_⟩) (by assumption) ?_
      rotate_left
      · intro w hSw; (try dsimp only at hSw); go_simp; (try (with_reducible rfl))
      try simp only [Act.put, List.setIfInBounds_toArray, List.set_cons_zero, List.set_cons_succ]
      refine wpAnyH_take (i := 8) (oi := ⟨_, _, _, _, _, _⟩) (v := ?_) rfl (by kernel_rfl) (by kernel_rfl) (by kernel_rfl) (fun _ _ _ h => h) (Or.inl ⟨by rfl, ?_⟩) (by assumption) ?_
      rotate_left
      · intro w hSw; (try dsimp only at hSw); go_simp; (try (with_reducible rfl))
      try simp only [Act.put, List.setIfInBounds_toArray, List.set_cons_zero, List.set_cons_succ]
      refine wpAnyH_take (i := 9) (oi := ⟨_, _, _, _, _, _⟩) (v := ?_) rfl (by kernel_rfl) (by kernel_rfl) (by kernel_rfl) (fun _ _ _ h => h) (Or.inl ⟨by rfl, ?_⟩) (by assumption) ?_
      rotate_left
      · intro w hSw; (try dsimp only at hSw); go_simp; (try (with_reducible rfl))
      try simp only [Act.put, List.setIfInBounds_toArray, List.set_cons_zero, List.set_cons_succ]
      refine wpAnyH_take (i := 10) (oi := ⟨_, _, _, _, _, _⟩) (v := ?_) rfl (by kernel_rfl) (by kernel_rfl) (by kernel_rfl) (fun _ _ _ h => h) (Or.inl ⟨by rfl, ?_⟩) (by assumption) ?_
      rotate_left
      · intro w hSw; (try dsimp only at hSw); go_simp; (try (with_reducible rfl))
      try simp only [Act.put, List.setIfInBounds_toArray, List.set_cons_zero, List.set_cons_succ]
      refine wpAnyH_take (i := 11) (oi := ⟨_, _, _, _, _, _⟩) (v := ?_) rfl (by kernel_rfl) (by kernel_rfl) (by kernel_rfl) (fun _ _ _ h => h) (Or.inl ⟨by rfl, ?_⟩) (by assumption) ?_
      rotate_left
      · intro w hSw; (try dsimp only at hSw); go_simp; (try (with_reducible rfl))
      try simp only [Act.put, List.setIfInBounds_toArray, List.set_cons_zero, List.set_cons_succ]
      refine wpAnyH_take (i := 12) (oi := ⟨_, _, _, _, _, _⟩) (v := ?_) rfl (by kernel_rfl) (by kernel_rfl) (by kernel_rfl) (fun _ _ _ h => h) (Or.inl ⟨by rfl, ?_⟩) (by assumption) ?_
      rotate_left
      · intro w hSw; (try dsimp only at hSw); go_simp; (try (with_reducible rfl))
      try simp only [Act.put, List.setIfInBounds_toArray, List.set_cons_zero, List.set_cons_succ]
      refine wpAnyH_take (i := 13) (oi := ⟨_, _, _, _, _, _⟩) (v := ?_) rfl (by kernel_rfl) (by kernel_rfl) (by kernel_rfl) (fun _ _ _ h => h) (Or.inl ⟨by rfl, ?_⟩) (by assumption) ?_
      rotate_left
      · intro w hSw; (try dsimp only at hSw); go_simp; (try (with_reducible rfl))
      try simp only [Act.put, List.setIfInBounds_toArray, List.set_cons_zero, List.set_cons_succ]
      refine wpAnyH_take (i := 14) (oi := ⟨_, _, _, _, _, _⟩) (v := ?_) rfl (by kernel_rfl) (by kernel_rfl) (by kernel_rfl) (fun _ _ _ h => h) (Or.inl ⟨by rfl, ?_⟩) (by assumption) ?_
      rotate_left
      · intro w hSw; (try dsimp only at hSw); go_simp; (try (with_reducible rfl))
      try simp only [Act.put, List.setIfInBounds_toArray, List.set_cons_zero, List.set_cons_succ]
      refine wpAnyH_take (i := 15) (oi := ⟨_, _, _, _, _, _⟩) (v := ?_) rfl (by kernel_rfl) (by kernel_rfl) (by kernel_rfl) (fun _ _ _ h => h) (Or.inl ⟨by rfl, ?_⟩) (by assumption) ?_
      rotate_left
      · intro w hSw; (try dsimp only at hSw); go_simp; (try (with_reducible rfl))
      try simp only [Act.put, List.setIfInBounds_toArray, List.set_cons_zero, List.set_cons_succ]
      refine wpAnyH_take (i := 16) (oi := ⟨_, _, _, _, _, _⟩) (v := ?_) rfl (by kernel_rfl) (by kernel_rfl) (by kernel_rfl) (fun _ _ _ h => h) (Or.inl ⟨by rfl, ?_⟩) (by assumption) ?_
      rotate_left
      · intro w hSw; (try dsimp only at hSw); go_simp; (try (with_reducible rfl))
      try simp only [Act.put, List.setIfInBounds_toArray, List.set_cons_zero, List.set_cons_succ]
      refine wpAnyH_take (i := 17) (oi := ⟨_, _, _, _, _, _⟩) (v := ?_) rfl (by kernel_rfl) (by kernel_rfl) (by kernel_rfl) (fun _ _ _ h => h) (Or.inl ⟨by rfl, ?_⟩) (by assumption) ?_
      rotate_left
      · intro w hSw; (try dsimp only at hSw); go_simp; (try (with_reducible rfl))
      try simp only [Act.put, List.setIfInBounds_toArray, List.set_cons_zero, List.set_cons_succ]
      refine wpAnyH_take (i := 18) (oi := ⟨_, _, _, _, _, _⟩) (v := ?_) rfl (by kernel_rfl) (by kernel_rfl) (by kernel_rfl) (fun _ _ _ h => h) (Or.inl ⟨by rfl, ?_⟩) (by assumption) ?_
      rotate_left
      · intro w hSw; (try dsimp only at hSw); go_simp; (try (with_reducible rfl))
      try simp only [Act.put, List.setIfInBounds_toArray, List.set_cons_zero, List.set_cons_succ]
      refine wpAnyH_take (i := 19) (oi := ⟨_, _, _, _, _, _⟩) (v := ?_) rfl (by kernel_rfl) (by kernel_rfl) (by kernel_rfl) (fun _ _ _ h => h) (Or.inl ⟨by rfl, ?_⟩) (by assumption) ?_
      rotate_left
      · intro w hSw; (try dsimp only at hSw); go_simp; (try (with_reducible rfl))
      try simp only [Act.put, List.setIfInBounds_toArray, List.set_cons_zero, List.set_cons_succ]
      refine wpAnyH_ready (rs := [20]) (by kernel_rfl) (by simp) ?_
      refine AllReadyH.cons (o := ⟨_, _, _, _, _, _⟩) rfl (fun K hK => ?_) AllReadyH.nil
      go_simp
      refine (stn_name2 h4.drew x.num (xor_i64 _ _) hap (by rw [List.length_map]; omega)).mono ?_
      rintro e w5 ⟨rfl, h5⟩
      rw [HTW.out.1]
      have k1 := (h5.bel.cell (p := ⟨b, off + j * 5 + 1, none⟩) hb0).trans g1
      have k3 := (h5.bel.cell (p := ⟨b, off + j * 5 + 3, none⟩) hb0).trans g3
      have k2 := (h5.bel.cell (p := ⟨b, off + j * 5 + 2, none⟩) hb0).trans g2
      refine hK.out _ _ ⟨k1, k3, k2⟩ (fun hHeld => ?_)
      clear hK K
      try simp only [Act.put, List.setIfInBounds_toArray, List.set_cons_zero, List.set_cons_succ]
      refine wpAnyH_take (i := 21) (oi := ⟨_, _, _, _, _, _⟩) (v := ?_) rfl (by kernel_rfl) (by kernel_rfl) (by kernel_rfl) (fun _ _ _ h => h) (Or.inl ⟨by rfl, ?_⟩) (by assumption) ?_
      rotate_left
      · intro w hSw; (try dsimp only at hSw); go_simp; (try (with_reducible rfl))
      try simp only [Act.put, List.setIfInBounds_toArray, List.set_cons_zero, List.set_cons_succ]
      refine wpAnyH_take (i := 22) (oi := ⟨_, _, _, _, _, _⟩) (v := ?_) rfl (by kernel_rfl) (by kernel_rfl) (by kernel_rfl) (fun _ _ _ h => h) (Or.inl ⟨by rfl, ?_⟩) (by assumption) ?_
      rotate_left
      · intro w hSw; (try dsimp only at hSw); go_simp; (try (with_reducible rfl))
      try simp only [Act.put, List.setIfInBounds_toArray, List.set_cons_zero, List.set_cons_succ]
      refine wpAnyH_take (i := 23) (oi := ⟨_, _, _, _, _, _⟩) (v := ?_) rfl (by kernel_rfl) (by kernel_rfl) (by kernel_rfl) (fun _ _ _ h => h) (Or.inl ⟨by rfl, ?_⟩) (by assumption) ?_
      rotate_left
      · intro w hSw; (try dsimp only at hSw); go_simp; (try (with_reducible rfl))
      try simp only [Act.put, List.setIfInBounds_toArray, List.set_cons_zero, List.set_cons_succ]
      refine wpAnyH_take (i := 24) (oi := ⟨_, _, _, _, _, _⟩) (v := ?_) rfl (by kernel_rfl) (by kernel_rfl) (by kernel_rfl) (fun _ _ _ h => h) (Or.inl ⟨by rfl, ?_⟩) (by assumption) ?_
      rotate_left
      · intro w hSw; (try dsimp only at hSw); go_simp; (try (with_reducible rfl))
      try simp only [Act.put, List.setIfInBounds_toArray, List.set_cons_zero, List.set_cons_succ]
      refine wpAnyH_take (i := 25) (oi := ⟨_, _, _, _, _, _⟩) (v := ?_) rfl (by kernel_rfl) (by kernel_rfl) (by kernel_rfl) (fun _ _ _ h => h) (Or.inl ⟨by rfl, ?_⟩) (by assumption) ?_
      rotate_left
      · intro w hSw; (try dsimp only at hSw); go_simp; (try (with_reducible rfl))
      try simp only [Act.put, List.setIfInBounds_toArray, List.set_cons_zero, List.set_cons_succ]
      refine wpAnyH_done (by kernel_rfl) ?_ _
      clear h4 f1 f2 f3 k1 k2 k3
      rw [HTW.out.2] at h5
      obtain ⟨A1, q1, rfl⟩ := h5.form
      rw [hnsl] at h5 ⊢
      generalize nameI N x.key x.ad x.num = y at *
      obtain ⟨M, hM⟩ : ∃ M, nameN N x.key x.ad x.num = M := ⟨_, rfl⟩
      rw [hM] at h5 HST
      clear hM HTW hap hcat
      go_wp2_with fail
      go_loopw [17] (fun i wr => ∃ q : Nat, q ≤ j ∧ i = .int .i64 q ∧ StN wu wr g g' M (M.map (twN (fun a => bits .xor .i64 a k) p)) (.slice A1 j q1) ns) (fun i _ => j - (intOf i).toNat)
      case atStart => exact ⟨0, by omega, rfl, h5⟩
      case round =>
        clear h5
        obtain ⟨q, hq, rfl, h5⟩ := hrel
        by_cases hqj : q < j
        · have hq1' : q < ns.length := by omega
          have hq2 : q < ls.length := by omega
          have hqz : (q : Int) < j := by omega
          have hqn : (q : Int) < n := by omega
          have hq0 : (0 : Int) ≤ q := by omega
          have hal := HAL.out q hq1' hq2
          obtain ⟨ba, oa, rfl, ca, -⟩ := h5.rd.2.at_ (k := q) (by rw [intV_length]; exact hq1')
          rw [intV_at ns _ hq1'] at ca
          obtain ⟨-, m1, -, m3, -⟩ := hr1.getC hq2
          have s1 := (h5.bel.cell (p := ⟨b, off + q * 5 + 1, none⟩) hb0).trans m1
          have s3 := (h5.bel.cell (p := ⟨b, off + q * 5 + 3, none⟩) hb0).trans m3
          have e1 := (h5.bel.cell (p := ⟨b, off + j * 5 + 1, none⟩) hb0).trans g1
          have e3 := (h5.bel.cell (p := ⟨b, off + j * 5 + 3, none⟩) hb0).trans g3
          generalize ns[q] = z at *
          generalize ls[q] = u at *
          clear m1 m3
          by_cases hal2 : u.key = x.key ∧ u.ad = x.ad
          · obtain rfl := hal.2 hal2
            obtain ⟨a1, a2⟩ := hal2
            rw [a1] at s1
            rw [a2] at s3
            clear hal
            go_wp2
            go_quiet (fail)
            go_wp2
            go_roundw
            case rel => exact ⟨q + 1, by omega, by go_num, h5.drewN _⟩
            case measure => simp [intOf]; omega
          · have hzy : (z == y) = false := beq_eq_false_iff_ne.2 (fun e => hal2 (hal.1 e))
            by_cases hk : u.key = x.key
            · have hne := strs_apart (fun e => hal2 ⟨hk, e⟩)
              rw [hk] at s1
              clear hal hal2
              go_wp2
              go_quiet (fail)
              go_wp2
              go_roundw
              case rel => exact ⟨q + 1, by omega, by go_num, h5.drewN _⟩
              case measure => simp [intOf]; omega
            · have hne : (u.key == x.key) = false := beq_eq_false_iff_ne.2 hk
              clear hal hal2
              go_wp2
              go_quiet (fail)
              go_wp2
              go_roundw
              case rel => exact ⟨q + 1, by omega, by go_num, h5.drewN _⟩
              case measure => simp [intOf]; omega
        · have e : q = j := by omega
          subst e
          have hqz : ¬ (q : Int) < q := by omega
          have hns : ns.length ≤ 1000 := by omega
          have h5a := h5.below ((Below.refl _ _).alloc (Nat.le_refl _) (.cells #[.int .i64 y] 3))
          go_wp2_with (at_builtin; refine wpAppN h5a hns rfl _ _ rfl rfl ⟨wr.heap.size, 0, none⟩ y rfl (cell_one_new _ _ _ 0 _ rfl) ?_; intro A1' q1' w6 h6)
          go_roundw
          case rel => exact ⟨q + 1, M, ns ++ [y], by omega, by go_num, h6, HST⟩
          case measure => simp [intOf]; omega
    · have e : n = j := by omega
      subst e
      have hnj : ¬ (n : Int) < n := by omega
      have b3 := below2 b1 h3.bel
      go_wp2
      go_ret
      exact ⟨rfl, b3⟩
end Go.Proofs.Ytdejhpinmkbngaa
