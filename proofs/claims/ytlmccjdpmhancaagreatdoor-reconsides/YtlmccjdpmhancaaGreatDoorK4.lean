/- The texts Sg, Sh, Si, in one. -/
import Derived.Test.YtlmccjdpmhancaaGreatDoorK3
namespace Go.Proofs.YtlmccjdpmhancaaGreatDoor
open Go.RowKit Go.Shelf

attribute [local go_sem] Oper.semAt_some

theorem both_any (A B : Option Addr) (n c m d : Nat) (w : World) :
    Calls Tryz.prog 56 #[.slice A n c, .slice B m d] w fun e w' => e = .returned (.func (.func 92) #[] #[.pointer (some ⟨w.heap.size, 0, none⟩), .pointer (some ⟨w.heap.size + 1, 0, none⟩)]) ∧ w' = (w.alloc (.cells #[.slice A n c] 22)).alloc (.cells #[.slice B m d] 36) := by
  have hmf : ∀ (fn : Fn) (first cap : Array Value) (w : World), (Instr.makeFunc fn first cap).run Tryz.prog w = .ok (.func fn first cap) w := fun _ _ _ _ => rfl
  go_enter Tryz.func56, Tryz.ntmps56
  go_wp2
  go_ret
  exact ⟨rfl, rfl⟩

/-- The slice without its first one. -/
theorem cut_run {t e : TypeId} {sz : Nat} (ht : Tryz.prog.underlying t = some (.slice e)) (hz : ∀ w, (sizeOf e).run Tryz.prog w = .ok sz w) (A : Option Addr) (n c : Nat) (hn : 0 < n) (w : World) :
    (Instr.slice t (.slice A n c) (some (.int .i64 1)) none none).run Tryz.prog w = .ok (.slice (if c = 1 then A else A.map (·.add (1 * sz))) (n - 1) (c - 1)) w := by
  have h1 : (0 : Int) ≤ 1 ∧ (1 : Int) ≤ (n : Int) := by omega
  simp [Instr.slice, Instr.sliceBounds, Instr.sliceBound, run_underlying ht, hz, asIntOf, h1]
theorem rd_tail {w : World} {A : Option Addr} {xs ys : List Value} {c k : Nat} (h : Rd w A (xs ++ ys)) (hk : xs.length = k) (hc : ys ≠ [] → c ≠ 1) : Rd w (if c = 1 then A else A.map (·.add k)) ys := by
  by_cases hy : ys = []
  · exact .inl hy
  · rw [if_neg (hc hy)]
    rcases h with h | ⟨ad, rfl, h⟩
    · exact .inl (List.append_eq_nil_iff.1 h).2
    · refine .inr ⟨ad.add k, rfl, fun j u hu => ?_⟩
      rw [add_assoc']
      refine h _ u ?_
      rw [List.getElem?_append_right (by omega), hk, Nat.add_sub_cancel_left]
      exact hu
theorem ent_tail {w : World} {A : Option Addr} {e : Ent} {es : List Ent} {c : Nat} (h : Rd w A (entV (e :: es))) (hc : es.length + 1 ≤ c) :
    ∃ A', (∀ w, (Instr.slice 22 (.slice A (es.length + 1) c) (some (.int .i64 1)) none none).run Tryz.prog w = .ok (.slice A' es.length (c - 1)) w) ∧ Rd w A' (entV es) :=
  ⟨_, fun w => cut_run Tryz.underlying22 (fun w => Tryz.sizeOf34 w) A (es.length + 1) c (by omega) w, rd_tail (xs := eV e) h rfl (fun hy => by
    have : es ≠ [] := fun x => hy (by rw [x]; rfl)
    have := List.length_pos_iff.2 this
    omega)⟩
theorem fil_tail {w : World} {A : Option Addr} {f : Fil} {fs : List Fil} {c : Nat} (h : Rd w A (filV (f :: fs))) (hc : fs.length + 1 ≤ c) :
    ∃ A', (∀ w, (Instr.slice 36 (.slice A (fs.length + 1) c) (some (.int .i64 1)) none none).run Tryz.prog w = .ok (.slice A' fs.length (c - 1)) w) ∧ Rd w A' (filV fs) :=
  ⟨_, fun w => cut_run Tryz.underlying36 (fun w => Tryz.sizeOf57 w) A (fs.length + 1) c (by omega) w, rd_tail (xs := [.string f.1, .string f.2]) h rfl (fun hy => by
    have : fs ≠ [] := fun x => hy (by rw [x]; rfl)
    have := List.length_pos_iff.2 this
    omega)⟩
abbrev S2 := { p : Ent × Ent // SzE p.2 }
def sliceLen : Value → Nat
  | .slice _ n _ => n
  | _ => 0

set_option maxRecDepth 100000 in
set_option maxHeartbeats 4000000 in
theorem both1_in (k : Nat) (hk : 1 ≤ k) (l Bl Bt : Nat) (w0 : World) (A B : Option Addr) (n c m d : Nat) (es : List Ent) (fs : List Fil) (hl : es.length = n) (hr : Rd w0 A (entV es)) (hc : n ≤ c) (hl2 : fs.length = m) (hr2 : Rd w0 B (filV fs)) (hc2 : m ≤ d)
    (ys : List S2) (hys : ys.map (·.1) = bothL es fs) (J Jx : List S2 → World → Prop)
    (W : World) (hJ : AbidesFrom W.heap.size J)
    (hY : ∀ pre (x : S2) W, J pre W → pre.length < n + m → YieldAt Fence.wide (k - 1) Tryz.prog l #[eA x.1.1, eA x.1.2] W fun e W' =>
      (e = .returned (.bool true) ∧ J (pre ++ [x]) W' ∧ Below w0.heap.size W W') ∨ (e = .returned (.bool false) ∧ Jx (pre ++ [x]) W'))
    (hB : W.cell? ⟨Bl, 0, none⟩ = some (.slice A n c)) (hB2 : W.cell? ⟨Bt, 0, none⟩ = some (.slice B m d)) (hW : Below w0.heap.size w0 W) (h0 : J [] W) :
    CallsIn Fence.wide k Tryz.prog 92 #[.func (.yield l) #[] #[], .pointer (some ⟨Bl, 0, none⟩), .pointer (some ⟨Bt, 0, none⟩)] W fun e W' => (∃ v, e = .returned v) ∧
      ((∃ zs, zs = ys ∧ J zs W') ∨ (∃ pre, pre <+: ys ∧ Jx pre W')) := by
  refine callsIn_of_wp Tryz.func92 rfl trivial ?_ rfl
  simp only [Tryz.ntmps92, List.size_toArray, List.length_cons, List.length_nil, Nat.reduceAdd, Nat.reduceSub, Array.replicate_succ, Array.replicate_zero, List.push_toArray, List.append_toArray, List.nil_append, List.cons_append]
  gi_wp2
  refine wpIn_wide.2 ?_
  refine wp_region_held_drew (S := fun w' => w'.cell? ⟨Bl, 0, none⟩ = some (.slice A n c) ∧ w'.cell? ⟨Bt, 0, none⟩ = some (.slice B m d)) (by kernel_rfl) ⟨hB, hB2⟩ (fun hHeld => ?_)
  refine wpAnyH_take (i := 0) (oi := ⟨_, _, _, _, _, _⟩) (v := ?_) rfl (by kernel_rfl) (by kernel_rfl) (by kernel_rfl) (fun _ _ _ h => h) (Or.inl ⟨by rfl, ?_⟩) (by assumption) ?_
  rotate_left
  · intro w hSw; (try dsimp only at hSw); go_simp; (try (with_reducible rfl))
  try simp only [Act.put, List.setIfInBounds_toArray, List.set_cons_zero, List.set_cons_succ]
  refine wpAnyH_take (i := 1) (oi := ⟨_, _, _, _, _, _⟩) (v := ?_) rfl (by kernel_rfl) (by kernel_rfl) (by kernel_rfl) (fun _ _ _ h => h) (Or.inl ⟨by rfl, ?_⟩) (by assumption) ?_
  rotate_left
  · intro w hSw; (try dsimp only at hSw); go_simp; (try (with_reducible rfl))
  try simp only [Act.put, List.setIfInBounds_toArray, List.set_cons_zero, List.set_cons_succ]
  refine wpAnyH_take (i := 2) (oi := ⟨_, _, _, _, _, _⟩) (v := ?_) rfl (by kernel_rfl) (by kernel_rfl) (by kernel_rfl) (fun _ _ _ h => h) (Or.inl ⟨by rfl, ?_⟩) (by assumption) ?_
  rotate_left
  · intro w hSw; (try dsimp only at hSw); go_simp; (try (with_reducible rfl))
  try simp only [Act.put, List.setIfInBounds_toArray, List.set_cons_zero, List.set_cons_succ]
  refine wpAnyH_take (i := 3) (oi := ⟨_, _, _, _, _, _⟩) (v := ?_) rfl (by kernel_rfl) (by kernel_rfl) (by kernel_rfl) (fun _ _ _ h => h) (Or.inl ⟨by rfl, ?_⟩) (by assumption) ?_
  rotate_left
  · intro w hSw; (try dsimp only at hSw); go_simp; (try (with_reducible rfl))
  try simp only [Act.put, List.setIfInBounds_toArray, List.set_cons_zero, List.set_cons_succ]
  refine wpAnyH_done (by kernel_rfl) ?_ _
  have hJd : J [] W.drew := hJ _ _ _ none h0 ⟨rfl, rfl, rfl, Nat.le_refl _, fun _ _ _ => rfl⟩ (by simp)
  have hWd : Below w0.heap.size w0 W.drew := ⟨hW.os, hW.tape, hW.output, hW.size, hW.block⟩
  have hJ' : AbidesFrom W.drew.heap.size J := hJ
  clear hHeld hB hB2 h0 hW hJ
  generalize W.drew = W1 at *
  gi_wp2
  gi_loopw [4, 5] (fun p q wr => ∃ (pre zs : List S2) (es' : List Ent) (fs' : List Fil) (A' B' : Option Addr) (c' d' : Nat), p = .slice A' es'.length c' ∧ q = .slice B' fs'.length d' ∧ Rd w0 A' (entV es') ∧ Rd w0 B' (filV fs') ∧ es'.length ≤ c' ∧ fs'.length ≤ d' ∧ Hid (ys = pre ++ zs) ∧ Hid (zs.map (·.1) = bothL es' fs') ∧ es'.length + fs'.length + pre.length ≤ n + m ∧ Below w0.heap.size w0 wr ∧ J pre wr) (fun p q _ => sliceLen p + sliceLen q)
  case atStart => exact ⟨[], ys, es, fs, A, B, c, d, by rw [hl], by rw [hl2], hr, hr2, by omega, by omega, hid rfl, hid hys, by simp; omega, hWd, hJd⟩
  case round =>
    obtain ⟨pre, zs, es', fs', A', B', c', d', rfl, rfl, hr1, hr2', hc1, hc2', HY, HZ, hlen, hb, hJp⟩ := hrel
    clear hr hr2 hc hc2 hl hl2 hys hJd hWd
    match es', fs', hr1, hr2', hc1, hc2', HZ, hlen with
    | [], [], hr1, hr2', hc1, hc2', HZ, hlen =>
      have HE : Hid (pre = ys) := by
        have := HZ.out
        rw [bothL_nil, List.map_eq_nil_iff] at this
        rw [Hid, HY.out, this, List.append_nil]
      gi_wp2
      go_end0
      exact ⟨⟨_, rfl⟩, .inl ⟨_, HE.out, hJp⟩⟩
    | [], f :: t, hr1, hr2', hc1, hc2', HZ, hlen =>
      have c0 := lesser_any (c := c') (d := d') (es := []) rfl (hr1.below hb) (fs := (f :: t)) rfl (hr2'.below hb) (by simp)
      rw [show lesP [] (f :: t) = f.1 from rfl] at c0
      obtain ⟨B2, hsB, hrB⟩ := fil_tail hr2' hc2'
      obtain ⟨bt, ot, rfl, f0, f1, hbt⟩ := (hr2'.below hb).fil (j := 0) (by simp)
      simp only [List.getElem_cons_zero, Nat.zero_mul, Nat.add_zero] at f0 f1
      obtain ⟨x, zs', rfl, hx, hz⟩ := List.map_eq_cons_iff.1 (HZ.out.trans (bothL_t f t))
      obtain ⟨⟨wx, ix⟩, hsx⟩ := x
      simp only [Prod.mk.injEq] at hx
      obtain ⟨rfl, rfl⟩ := And.intro hx.1.symm hx.2.symm
      have HZ' := hid hz
      clear hz HZ
      simp only [List.length_cons, List.length_nil] at *
      have hm1 : 0 < t.length + 1 := by omega
      generalize HM1 : t.length + 1 = m1 at *
      have HM1' := hid HM1
      clear HM1
      gi_wp2_with (refine ⟨trivial, ?_⟩; gi_at_call 93; refine (callsIn_wide.2 c0).mono ?_; rintro ee w1 ⟨rfl, hb1⟩; have f0' := fun o1 o2 => (((hb1.alloc hb1.size o1).alloc (hb1.alloc hb1.size o1).size o2).cell (p := ⟨bt, ot, none⟩) hbt).trans f0)
      clear c0
      have P1 : Blk ((w1.alloc (.cells #[.string f.1, .bool false, .string ⟨#[]⟩, .int .i64 0, .int .i64 0] 34)).alloc (.cells #[.string f.1, .bool false, .string ⟨#[]⟩, .int .i64 0, .int .i64 0] 34)) w1.heap.size [.string f.1, .bool false, .string ⟨#[]⟩, .int .i64 0, .int .i64 0] 34 := (Blk.new w1 [.string f.1, .bool false, .string ⟨#[]⟩, .int .i64 0, .int .i64 0] 34).below ((Below.refl _ _).alloc (Nat.le_refl _) _)
      have Q1 := Blk.new (w1.alloc (.cells #[.string f.1, .bool false, .string ⟨#[]⟩, .int .i64 0, .int .i64 0] 34)) [.string f.1, .bool false, .string ⟨#[]⟩, .int .i64 0, .int .i64 0] 34
      rw [World.size_alloc] at Q1
      have hbX : Below wr.heap.size wr ((w1.alloc (.cells #[.string f.1, .bool false, .string ⟨#[]⟩, .int .i64 0, .int .i64 0] 34)).alloc (.cells #[.string f.1, .bool false, .string ⟨#[]⟩, .int .i64 0, .int .i64 0] 34)) := (hb1.alloc hb1.size _).alloc (by have := hb1.size; simp; omega) _
      have hg : wr.heap.size ≤ w1.heap.size := hb1.size
      have hg2 : wr.heap.size ≤ w1.heap.size + 1 := by omega
      have hgg : w1.heap.size ≠ w1.heap.size + 1 := by omega
      generalize (w1.alloc (.cells #[.string f.1, .bool false, .string ⟨#[]⟩, .int .i64 0, .int .i64 0] 34)).alloc (.cells #[.string f.1, .bool false, .string ⟨#[]⟩, .int .i64 0, .int .i64 0] 34) = X at *
      generalize w1.heap.size + 1 = g2 at *
      generalize w1.heap.size = g at *
      have fX := (hbX.cell (p := ⟨bt, ot + 1, none⟩) hbt).trans f1
      refine wpIn_wide.2 ?_
      refine wp_region_held_drew (S := fun w' => w'.cell? ⟨bt, ot + 1, none⟩ = some (.string f.2)) (by kernel_rfl) fX (fun hHeld => ?_)
      have P1 := P1.drew
      have Q1 := Q1.drew
      have hbX := hbX.drew
      clear fX
      generalize X.drew = X at *
      refine wpAnyH_take (i := 0) (oi := ⟨_, _, _, _, _, _⟩) (v := ?_) rfl (by kernel_rfl) (by kernel_rfl) (by kernel_rfl) (fun _ _ _ h => h) (Or.inl ⟨by rfl, ?_⟩) (by assumption) ?_
      rotate_left
      · intro w hSw; (try dsimp only at hSw); go_simp; (try (with_reducible rfl))
      try simp only [Act.put, List.setIfInBounds_toArray, List.set_cons_zero, List.set_cons_succ]
      refine wpAnyH_take (i := 1) (oi := ⟨_, _, _, _, _, _⟩) (v := ?_) rfl (by kernel_rfl) (by kernel_rfl) (by kernel_rfl) (fun _ _ _ h => h) (Or.inl ⟨by rfl, ?_⟩) (by assumption) ?_
      rotate_left
      · intro w hSw; (try dsimp only at hSw); go_simp; (try (with_reducible rfl))
      try simp only [Act.put, List.setIfInBounds_toArray, List.set_cons_zero, List.set_cons_succ]
      refine wpAnyH_take (i := 2) (oi := ⟨_, _, _, _, _, _⟩) (v := ?_) rfl (by kernel_rfl) (by kernel_rfl) (by kernel_rfl) (fun _ _ _ h => h) (Or.inl ⟨by rfl, ?_⟩) (by assumption) ?_
      rotate_left
      · intro w hSw; (try dsimp only at hSw); go_simp; (try (with_reducible rfl))
      try simp only [Act.put, List.setIfInBounds_toArray, List.set_cons_zero, List.set_cons_succ]
      refine wpAnyH_take (i := 3) (oi := ⟨_, _, _, _, _, _⟩) (v := ?_) rfl (by kernel_rfl) (by kernel_rfl) (by kernel_rfl) (fun _ _ _ h => h) (Or.inl ⟨by rfl, ?_⟩) (by assumption) ?_
      rotate_left
      · intro w hSw; (try dsimp only at hSw); go_simp; (try (with_reducible rfl))
      try simp only [Act.put, List.setIfInBounds_toArray, List.set_cons_zero, List.set_cons_succ]
      refine wpAnyH_take (i := 4) (oi := ⟨_, _, _, _, _, _⟩) (v := ?_) rfl (by kernel_rfl) (by kernel_rfl) (by kernel_rfl) (fun _ _ _ h => h) (Or.inl ⟨by rfl, ?_⟩) (by assumption) ?_
      rotate_left
      · intro w hSw; (try dsimp only at hSw); go_simp; (try (with_reducible rfl))
      try simp only [Act.put, List.setIfInBounds_toArray, List.set_cons_zero, List.set_cons_succ]
      refine wpAnyH_take (i := 5) (oi := ⟨_, _, _, _, _, _⟩) (v := ?_) rfl (by kernel_rfl) (by kernel_rfl) (by kernel_rfl) (fun _ _ _ h => h) (Or.inl ⟨by rfl, ?_⟩) (by assumption) ?_
      rotate_left
      · intro w hSw; (try dsimp only at hSw); go_simp; (try (with_reducible rfl))
      try simp only [Act.put, List.setIfInBounds_toArray, List.set_cons_zero, List.set_cons_succ]
      refine wpAnyH_take (i := 6) (oi := ⟨_, _, _, _, _, _⟩) (v := ?_) rfl (by kernel_rfl) (by kernel_rfl) (by kernel_rfl) (fun _ _ _ h => h) (Or.inl ⟨by rfl, ?_⟩) (by assumption) ?_
      rotate_left
      · intro w hSw; (try dsimp only at hSw); go_simp; (try (with_reducible rfl))
      try simp only [Act.put, List.setIfInBounds_toArray, List.set_cons_zero, List.set_cons_succ]
      have u0 := Q1.cell 0
      have u1 := Q1.cell 1
      have u2 := Q1.cell 2
      have u3 := Q1.cell 3
      have u4 := Q1.cell 4
      simp only [List.getElem?_cons_zero, List.getElem?_cons_succ] at u0 u1 u2 u3 u4
      have v1 := Q1.frozen 1
      have v2 := Q1.frozen 2
      have Q2 := (Q1.set_ 1 (.bool true))
      have hbY := hbX.setCell (p := ⟨g2, 1, none⟩) hg2 (.bool true)
      have P2 := P1.other hgg 1 (.bool true)
      have fY := (hbY.cell (p := ⟨bt, ot + 1, none⟩) hbt).trans f1
      simp only [List.set_cons_zero, List.set_cons_succ] at Q2
      refine wpAnyH_ready (rs := [7]) (by kernel_rfl) (by simp) ?_
      refine AllReadyH.cons (o := ⟨_, _, _, _, _, _⟩) rfl (fun K hK => ?_) AllReadyH.nil
      go_simp
      generalize X.setCell ⟨g2, 1, none⟩ (.bool true) = Y at *
      refine hK.out _ _ fY (fun hHeld => ?_)
      clear hK K
      try simp only [Act.put, List.setIfInBounds_toArray, List.set_cons_zero, List.set_cons_succ]
      refine wpAnyH_take (i := 8) (oi := ⟨_, _, _, _, _, _⟩) (v := ?_) rfl (by kernel_rfl) (by kernel_rfl) (by kernel_rfl) (fun _ _ _ h => h) (Or.inl ⟨by rfl, ?_⟩) (by assumption) ?_
      rotate_left
      · intro w hSw; (try dsimp only at hSw); go_simp; (try (with_reducible rfl))
      try simp only [Act.put, List.setIfInBounds_toArray, List.set_cons_zero, List.set_cons_succ]
      have y2 := Q2.cell 2
      have y3 := Q2.frozen 2
      have Q3 := (Q2.set_ 2 (.string f.2))
      have hbZ := hbY.setCell (p := ⟨g2, 2, none⟩) hg2 (.string f.2)
      have P3 := P2.other hgg 2 (.string f.2)
      have fZ := (hbZ.cell (p := ⟨bt, ot + 1, none⟩) hbt).trans f1
      simp only [List.set_cons_zero, List.set_cons_succ, List.getElem?_cons_zero, List.getElem?_cons_succ] at Q3 y2
      refine wpAnyH_ready (rs := [9]) (by kernel_rfl) (by simp) ?_
      refine AllReadyH.cons (o := ⟨_, _, _, _, _, _⟩) rfl (fun K hK => ?_) AllReadyH.nil
      go_simp
      generalize Y.setCell ⟨g2, 2, none⟩ (.string f.2) = Z at *
      refine hK.out _ _ fZ (fun hHeld => ?_)
      clear hK K
      try simp only [Act.put, List.setIfInBounds_toArray, List.set_cons_zero, List.set_cons_succ]
      refine wpAnyH_take (i := 10) (oi := ⟨_, _, _, _, _, _⟩) (v := ?_) rfl (by kernel_rfl) (by kernel_rfl) (by kernel_rfl) (fun _ _ _ h => h) (Or.inl ⟨by rfl, ?_⟩) (by assumption) ?_
      rotate_left
      · intro w hSw; (try dsimp only at hSw); go_simp; (try (with_reducible rfl))
      try simp only [Act.put, List.setIfInBounds_toArray, List.set_cons_zero, List.set_cons_succ]
      refine wpAnyH_done (by kernel_rfl) ?_ _
      clear hHeld u0 u1 u2 u3 u4 v1 v2 Q1 Q2 P1 P2 hbX hbY fY fZ y2 y3
      have r0 := P3.cell 0
      have r1 := P3.cell 1
      have r2 := P3.cell 2
      have r3 := P3.cell 3
      have r4 := P3.cell 4
      simp only [List.getElem?_cons_zero, List.getElem?_cons_succ] at r0 r1 r2 r3 r4
      have s0 := Q3.cell 0
      have s1 := Q3.cell 1
      have s2 := Q3.cell 2
      have s3 := Q3.cell 3
      have s4 := Q3.cell 4
      simp only [List.getElem?_cons_zero, List.getElem?_cons_succ] at s0 s1 s2 s3 s4
      have hJy := hJ' _ _ _ none hJp (grown_below (row := none) hbZ) (by simp)
      have hbz := hb.trans (hbZ.mono hb.size)
      obtain ⟨fn, tmps, assign, body, hy, hR⟩ := hY _ ⟨(_, _), hsx⟩ _ hJy (by omega)
      simp only [kept, fresh, noS, eA] at hy
      clear hJy hbZ
      gi_wp2
      refine hR.mono ?_
      rintro ee W3 (⟨rfl, hJ3, hk3⟩ | ⟨rfl, hJx3⟩)
      · have hb3 := hbz.trans hk3
        clear hk3 hy hR
        gi_wp2
        go_roundw
        case rel => exact ⟨_, zs', [], t, A', B2, c', d' - 1, rfl, rfl, hr1, hrB, by have hh2 := HM1'.out; (first | omega | (simp; done) | (simp; omega)), by have hh2 := HM1'.out; (first | omega | (simp; done) | (simp; omega)), hid (by rw [HY.out]; simp), HZ', by have hh2 := HM1'.out; (first | omega | (simp; done) | (simp; omega)), hb3, hJ3⟩
        case measure => have hh2 := HM1'.out; simp [sliceLen]; omega
      · gi_wp2
        refine bodyPost_ret (results_none rfl _ _ _) rfl ?_
        exact ⟨⟨_, rfl⟩, .inr ⟨_, ⟨zs', by rw [HY.out]; simp⟩, hJx3⟩⟩
    | e :: el, [], hr1, hr2', hc1, hc2', HZ, hlen =>
      have c0 := lesser_any (c := c') (d := d') (es := (e :: el)) rfl (hr1.below hb) (fs := []) rfl (hr2'.below hb) (by simp)
      rw [show lesP (e :: el) [] = e.path from rfl] at c0
      obtain ⟨A2, hsA, hrA⟩ := ent_tail hr1 hc1
      obtain ⟨bl, ol, rfl, e0, e1, e2, e3, e4, hbl⟩ := (hr1.below hb).ent (j := 0) (by simp)
      simp only [List.getElem_cons_zero, Nat.zero_mul, Nat.add_zero] at e0 e1 e2 e3 e4
      obtain ⟨x, zs', rfl, hx, hz⟩ := List.map_eq_cons_iff.1 (HZ.out.trans (bothL_l e el))
      obtain ⟨⟨wx, ix⟩, hsx⟩ := x
      simp only [Prod.mk.injEq] at hx
      obtain ⟨rfl, rfl⟩ := And.intro hx.1.symm hx.2.symm
      have HZ' := hid hz
      clear hz HZ
      simp only [List.length_cons, List.length_nil] at *
      have hn1 : 0 < el.length + 1 := by omega
      generalize HN1 : el.length + 1 = n1 at *
      have HN1' := hid HN1
      clear HN1
      gi_wp2_with (refine ⟨trivial, ?_⟩; gi_at_call 93; refine (callsIn_wide.2 c0).mono ?_; rintro ee w1 ⟨rfl, hb1⟩; have e0' := fun o => ((hb1.alloc hb1.size o).cell (p := ⟨bl, ol, none⟩) hbl).trans e0)
      clear c0
      have p0 := Blk.new w1 [.string e.path, .bool false, .string ⟨#[]⟩, .int .i64 0, .int .i64 0] 34
      have hbw : Below wr.heap.size wr (w1.alloc (.cells #[.string e.path, .bool false, .string ⟨#[]⟩, .int .i64 0, .int .i64 0] 34)) := hb1.alloc hb1.size _
      have hg : wr.heap.size ≤ w1.heap.size := hb1.size
      obtain ⟨X1, hX1⟩ : ∃ X1, w1.alloc (.cells #[.string e.path, .bool false, .string ⟨#[]⟩, .int .i64 0, .int .i64 0] 34) = X1 := ⟨_, rfl⟩
      rw [hX1]
      rw [show Blk _ w1.heap.size _ _ = Blk X1 w1.heap.size [.string e.path, .bool false, .string ⟨#[]⟩, .int .i64 0, .int .i64 0] 34 from by rw [← hX1]] at p0
      rw [hX1] at hbw
      clear hX1 hb1
      have hsz1 := p0.lt
      generalize w1.heap.size = g at *
      have k0 := (hbw.cell (p := ⟨bl, ol, none⟩) hbl).trans e0
      have k1 := (hbw.cell (p := ⟨bl, ol + 1, none⟩) hbl).trans e1
      have k2 := (hbw.cell (p := ⟨bl, ol + 2, none⟩) hbl).trans e2
      have k3 := (hbw.cell (p := ⟨bl, ol + 3, none⟩) hbl).trans e3
      have k4 := (hbw.cell (p := ⟨bl, ol + 4, none⟩) hbl).trans e4
      refine wpIn_wide.2 ?_
      refine wp_region_held_drew (S := fun w' => w'.cell? ⟨bl, ol, none⟩ = some (.string e.path) ∧ w'.cell? ⟨bl, ol + 1, none⟩ = some (.bool e.has) ∧ w'.cell? ⟨bl, ol + 2, none⟩ = some (.string e.data) ∧ w'.cell? ⟨bl, ol + 3, none⟩ = some (.int .i64 e.l) ∧ w'.cell? ⟨bl, ol + 4, none⟩ = some (.int .i64 e.r)) (by kernel_rfl) ⟨k0, k1, k2, k3, k4⟩ (fun hHeld => ?_)
      have p0 := p0.drew
      have hbw := hbw.drew
      clear k0 k1 k2 k3 k4
      generalize X1.drew = X1 at *
      refine wpAnyH_take (i := 0) (oi := ⟨_, _, _, _, _, _⟩) (v := ?_) rfl (by kernel_rfl) (by kernel_rfl) (by kernel_rfl) (fun _ _ _ h => h) (Or.inl ⟨by rfl, ?_⟩) (by assumption) ?_
      rotate_left
      · intro w hSw; (try dsimp only at hSw); go_simp; (try (with_reducible rfl))
      try simp only [Act.put, List.setIfInBounds_toArray, List.set_cons_zero, List.set_cons_succ]
      refine wpAnyH_take (i := 1) (oi := ⟨_, _, _, _, _, _⟩) (v := ?_) rfl (by kernel_rfl) (by kernel_rfl) (by kernel_rfl) (fun _ _ _ h => h) (Or.inl ⟨by rfl, ?_⟩) (by assumption) ?_
      rotate_left
      · intro w hSw; (try dsimp only at hSw); go_simp; (try (with_reducible rfl))
      try simp only [Act.put, List.setIfInBounds_toArray, List.set_cons_zero, List.set_cons_succ]
      refine wpAnyH_take (i := 2) (oi := ⟨_, _, _, _, _, _⟩) (v := ?_) rfl (by kernel_rfl) (by kernel_rfl) (by kernel_rfl) (fun _ _ _ h => h) (Or.inl ⟨by rfl, ?_⟩) (by assumption) ?_
      rotate_left
      · intro w hSw; (try dsimp only at hSw); go_simp; (try (with_reducible rfl))
      try simp only [Act.put, List.setIfInBounds_toArray, List.set_cons_zero, List.set_cons_succ]
      refine wpAnyH_take (i := 3) (oi := ⟨_, _, _, _, _, _⟩) (v := ?_) rfl (by kernel_rfl) (by kernel_rfl) (by kernel_rfl) (fun _ _ _ h => h) (Or.inl ⟨by rfl, ?_⟩) (by assumption) ?_
      rotate_left
      · intro w hSw; (try dsimp only at hSw); go_simp; (try (with_reducible rfl))
      try simp only [Act.put, List.setIfInBounds_toArray, List.set_cons_zero, List.set_cons_succ]
      refine wpAnyH_take (i := 4) (oi := ⟨_, _, _, _, _, _⟩) (v := ?_) rfl (by kernel_rfl) (by kernel_rfl) (by kernel_rfl) (fun _ _ _ h => h) (Or.inl ⟨by rfl, ?_⟩) (by assumption) ?_
      rotate_left
      · intro w hSw; (try dsimp only at hSw); go_simp; (try (with_reducible rfl))
      try simp only [Act.put, List.setIfInBounds_toArray, List.set_cons_zero, List.set_cons_succ]
      have u0 := p0.cell 0
      have u1 := p0.cell 1
      have u2 := p0.cell 2
      have u3 := p0.cell 3
      have u4 := p0.cell 4
      simp only [List.getElem?_cons_zero, List.getElem?_cons_succ] at u0 u1 u2 u3 u4
      have v0 := p0.frozen 0
      have v1 := p0.frozen 1
      have v2 := p0.frozen 2
      have v3 := p0.frozen 3
      have v4 := p0.frozen 4
      have p1 : Blk (((((X1.setCell ⟨g, 0, none⟩ (.string e.path)).setCell ⟨g, 1, none⟩ (.bool e.has)).setCell ⟨g, 2, none⟩ (.string e.data)).setCell ⟨g, 3, none⟩ (.int .i64 e.l)).setCell ⟨g, 4, none⟩ (.int .i64 e.r)) g [.string e.path, .bool e.has, .string e.data, .int .i64 e.l, .int .i64 e.r] 34 := ((((p0.set_ 0 (.string e.path)).set_ 1 (.bool e.has)).set_ 2 (.string e.data)).set_ 3 (.int .i64 e.l)).set_ 4 (.int .i64 e.r)
      have hbw1 : Below wr.heap.size wr (((((X1.setCell ⟨g, 0, none⟩ (.string e.path)).setCell ⟨g, 1, none⟩ (.bool e.has)).setCell ⟨g, 2, none⟩ (.string e.data)).setCell ⟨g, 3, none⟩ (.int .i64 e.l)).setCell ⟨g, 4, none⟩ (.int .i64 e.r)) := ((((hbw.setCell (p := ⟨g, 0, none⟩) hg _).setCell (p := ⟨g, 1, none⟩) hg _).setCell (p := ⟨g, 2, none⟩) hg _).setCell (p := ⟨g, 3, none⟩) hg _).setCell (p := ⟨g, 4, none⟩) hg _
      generalize HX2 : ((((X1.setCell ⟨g, 0, none⟩ (.string e.path)).setCell ⟨g, 1, none⟩ (.bool e.has)).setCell ⟨g, 2, none⟩ (.string e.data)).setCell ⟨g, 3, none⟩ (.int .i64 e.l)).setCell ⟨g, 4, none⟩ (.int .i64 e.r) = X2 at p1 hbw1
      have m0 := (hbw1.cell (p := ⟨bl, ol, none⟩) hbl).trans e0
      have m1 := (hbw1.cell (p := ⟨bl, ol + 1, none⟩) hbl).trans e1
      have m2 := (hbw1.cell (p := ⟨bl, ol + 2, none⟩) hbl).trans e2
      have m3 := (hbw1.cell (p := ⟨bl, ol + 3, none⟩) hbl).trans e3
      have m4 := (hbw1.cell (p := ⟨bl, ol + 4, none⟩) hbl).trans e4
      refine wpAnyH_ready (rs := [5]) (by kernel_rfl) (by simp) ?_
      refine AllReadyH.cons (o := ⟨_, _, _, _, _, _⟩) rfl (fun K hK => ?_) AllReadyH.nil
      go_simp
      refine hK.out _ _ ⟨m0, m1, m2, m3, m4⟩ (fun hHeld => ?_)
      clear hK K
      try simp only [Act.put, List.setIfInBounds_toArray, List.set_cons_zero, List.set_cons_succ]
      refine wpAnyH_take (i := 6) (oi := ⟨_, _, _, _, _, _⟩) (v := ?_) rfl (by kernel_rfl) (by kernel_rfl) (by kernel_rfl) (fun _ _ _ h => h) (Or.inl ⟨by rfl, ?_⟩) (by assumption) ?_
      rotate_left
      · intro w hSw; (try dsimp only at hSw); go_simp; (try (with_reducible rfl))
      try simp only [Act.put, List.setIfInBounds_toArray, List.set_cons_zero, List.set_cons_succ]
      refine wpAnyH_done (by kernel_rfl) ?_ _
      clear hHeld HX2 p0 hbw u0 u1 u2 u3 u4 v0 v1 v2 v3 v4 m0 m1 m2 m3 m4
      have q0 := p1.cell 0
      have q1 := p1.cell 1
      have q2 := p1.cell 2
      have q3 := p1.cell 3
      have q4 := p1.cell 4
      simp only [List.getElem?_cons_zero, List.getElem?_cons_succ] at q0 q1 q2 q3 q4
      have hgX := p1.lt
      have hbZ : Below wr.heap.size wr (X2.alloc (.cells #[.string e.path, .bool false, .string ⟨#[]⟩, .int .i64 e.l, .int .i64 e.r] 34)) := hbw1.alloc hbw1.size _
      have hJy := hJ' _ _ _ none hJp (grown_below (row := none) hbZ) (by simp)
      have hbz := hb.trans (hbZ.mono hb.size)
      obtain ⟨fn, tmps, assign, body, hy, hR⟩ := hY _ ⟨(_, _), hsx⟩ _ hJy (by omega)
      simp only [gone, noS, eA] at hy
      clear hJy hbZ
      gi_wp2
      refine hR.mono ?_
      rintro ee W3 (⟨rfl, hJ3, hk3⟩ | ⟨rfl, hJx3⟩)
      · have hb3 := hbz.trans hk3
        clear hk3 hy hR
        gi_wp2
        go_roundw
        case rel => exact ⟨_, zs', el, [], A2, B', c' - 1, d', rfl, rfl, hrA, hr2', by have hh1 := HN1'.out; (first | omega | (simp; done) | (simp; omega)), by have hh1 := HN1'.out; (first | omega | (simp; done) | (simp; omega)), hid (by rw [HY.out]; simp), HZ', by have hh1 := HN1'.out; (first | omega | (simp; done) | (simp; omega)), hb3, hJ3⟩
        case measure => have hh1 := HN1'.out; simp [sliceLen]; omega
      · gi_wp2
        refine bodyPost_ret (results_none rfl _ _ _) rfl ?_
        exact ⟨⟨_, rfl⟩, .inr ⟨_, ⟨zs', by rw [HY.out]; simp⟩, hJx3⟩⟩
    | e :: el, f :: t, hr1, hr2', hc1, hc2', HZ, hlen =>
      by_cases hef : e.path = f.1
      · obtain ⟨fp, fd⟩ := f
        obtain rfl : e.path = fp := hef
        have HP : Hid (lesP (e :: el) ((e.path, fd) :: t) = e.path) := by show _ = _; rw [lesP]; split <;> rfl
        have c0 := lesser_any (c := c') (d := d') (es := (e :: el)) rfl (hr1.below hb) (fs := ((e.path, fd) :: t)) rfl (hr2'.below hb) (by simp)
        rw [show lesP (e :: el) ((e.path, fd) :: t) = e.path from HP.out] at c0
        obtain ⟨A2, hsA, hrA⟩ := ent_tail hr1 hc1
        obtain ⟨bl, ol, rfl, e0, e1, e2, e3, e4, hbl⟩ := (hr1.below hb).ent (j := 0) (by simp)
        simp only [List.getElem_cons_zero, Nat.zero_mul, Nat.add_zero] at e0 e1 e2 e3 e4
        obtain ⟨B2, hsB, hrB⟩ := fil_tail hr2' hc2'
        obtain ⟨bt, ot, rfl, f0, f1, hbt⟩ := (hr2'.below hb).fil (j := 0) (by simp)
        simp only [List.getElem_cons_zero, Nat.zero_mul, Nat.add_zero] at f0 f1
        obtain ⟨x, zs', rfl, hx, hz⟩ := List.map_eq_cons_iff.1 (HZ.out.trans (bothL_eq (f := (e.path, fd)) rfl el t))
        obtain ⟨⟨wx, ix⟩, hsx⟩ := x
        simp only [Prod.mk.injEq] at hx
        obtain ⟨rfl, rfl⟩ := And.intro hx.1.symm hx.2.symm
        have HZ' := hid hz
        clear hz HZ
        simp only [List.length_cons] at *
        have hn1 : 0 < el.length + 1 := by omega
        generalize HN1 : el.length + 1 = n1 at *
        have HN1' := hid HN1
        clear HN1
        have hm1 : 0 < t.length + 1 := by omega
        generalize HM1 : t.length + 1 = m1 at *
        have HM1' := hid HM1
        clear HM1
        gi_wp2_with (refine ⟨trivial, ?_⟩; gi_at_call 93; refine (callsIn_wide.2 c0).mono ?_; rintro ee w1 ⟨rfl, hb1⟩; have e0' := fun o => ((hb1.alloc hb1.size o).cell (p := ⟨bl, ol, none⟩) hbl).trans e0)
        clear c0
        have p0 := Blk.new w1 [.string e.path, .bool false, .string ⟨#[]⟩, .int .i64 0, .int .i64 0] 34
        have hbw : Below wr.heap.size wr (w1.alloc (.cells #[.string e.path, .bool false, .string ⟨#[]⟩, .int .i64 0, .int .i64 0] 34)) := hb1.alloc hb1.size _
        have hg : wr.heap.size ≤ w1.heap.size := hb1.size
        obtain ⟨X1, hX1⟩ : ∃ X1, w1.alloc (.cells #[.string e.path, .bool false, .string ⟨#[]⟩, .int .i64 0, .int .i64 0] 34) = X1 := ⟨_, rfl⟩
        rw [hX1]
        rw [show Blk _ w1.heap.size _ _ = Blk X1 w1.heap.size [.string e.path, .bool false, .string ⟨#[]⟩, .int .i64 0, .int .i64 0] 34 from by rw [← hX1]] at p0
        rw [hX1] at hbw
        clear hX1 hb1
        have hsz1 := p0.lt
        generalize w1.heap.size = g at *
        have k0 := (hbw.cell (p := ⟨bl, ol, none⟩) hbl).trans e0
        have k1 := (hbw.cell (p := ⟨bl, ol + 1, none⟩) hbl).trans e1
        have k2 := (hbw.cell (p := ⟨bl, ol + 2, none⟩) hbl).trans e2
        have k3 := (hbw.cell (p := ⟨bl, ol + 3, none⟩) hbl).trans e3
        have k4 := (hbw.cell (p := ⟨bl, ol + 4, none⟩) hbl).trans e4
        refine wpIn_wide.2 ?_
        refine wp_region_held_drew (S := fun w' => w'.cell? ⟨bl, ol, none⟩ = some (.string e.path) ∧ w'.cell? ⟨bl, ol + 1, none⟩ = some (.bool e.has) ∧ w'.cell? ⟨bl, ol + 2, none⟩ = some (.string e.data) ∧ w'.cell? ⟨bl, ol + 3, none⟩ = some (.int .i64 e.l) ∧ w'.cell? ⟨bl, ol + 4, none⟩ = some (.int .i64 e.r)) (by kernel_rfl) ⟨k0, k1, k2, k3, k4⟩ (fun hHeld => ?_)
        have p0 := p0.drew
        have hbw := hbw.drew
        clear k0 k1 k2 k3 k4
        generalize X1.drew = X1 at *
        refine wpAnyH_take (i := 0) (oi := ⟨_, _, _, _, _, _⟩) (v := ?_) rfl (by kernel_rfl) (by kernel_rfl) (by kernel_rfl) (fun _ _ _ h => h) (Or.inl ⟨by rfl, ?_⟩) (by assumption) ?_
        rotate_left
        · intro w hSw; (try dsimp only at hSw); go_simp; (try (with_reducible rfl))
        try simp only [Act.put, List.setIfInBounds_toArray, List.set_cons_zero, List.set_cons_succ]
        refine wpAnyH_take (i := 1) (oi := ⟨_, _, _, _, _, _⟩) (v := ?_) rfl (by kernel_rfl) (by kernel_rfl) (by kernel_rfl) (fun _ _ _ h => h) (Or.inl ⟨by rfl, ?_⟩) (by assumption) ?_
        rotate_left
        · intro w hSw; (try dsimp only at hSw); go_simp; (try (with_reducible rfl))
        try simp only [Act.put, List.setIfInBounds_toArray, List.set_cons_zero, List.set_cons_succ]
        refine wpAnyH_take (i := 2) (oi := ⟨_, _, _, _, _, _⟩) (v := ?_) rfl (by kernel_rfl) (by kernel_rfl) (by kernel_rfl) (fun _ _ _ h => h) (Or.inl ⟨by rfl, ?_⟩) (by assumption) ?_
        rotate_left
        · intro w hSw; (try dsimp only at hSw); go_simp; (try (with_reducible rfl))
        try simp only [Act.put, List.setIfInBounds_toArray, List.set_cons_zero, List.set_cons_succ]
        refine wpAnyH_take (i := 3) (oi := ⟨_, _, _, _, _, _⟩) (v := ?_) rfl (by kernel_rfl) (by kernel_rfl) (by kernel_rfl) (fun _ _ _ h => h) (Or.inl ⟨by rfl, ?_⟩) (by assumption) ?_
        rotate_left
        · intro w hSw; (try dsimp only at hSw); go_simp; (try (with_reducible rfl))
        try simp only [Act.put, List.setIfInBounds_toArray, List.set_cons_zero, List.set_cons_succ]
        refine wpAnyH_take (i := 4) (oi := ⟨_, _, _, _, _, _⟩) (v := ?_) rfl (by kernel_rfl) (by kernel_rfl) (by kernel_rfl) (fun _ _ _ h => h) (Or.inl ⟨by rfl, ?_⟩) (by assumption) ?_
        rotate_left
        · intro w hSw; (try dsimp only at hSw); go_simp; (try (with_reducible rfl))
        try simp only [Act.put, List.setIfInBounds_toArray, List.set_cons_zero, List.set_cons_succ]
        have u0 := p0.cell 0
        have u1 := p0.cell 1
        have u2 := p0.cell 2
        have u3 := p0.cell 3
        have u4 := p0.cell 4
        simp only [List.getElem?_cons_zero, List.getElem?_cons_succ] at u0 u1 u2 u3 u4
        have v0 := p0.frozen 0
        have v1 := p0.frozen 1
        have v2 := p0.frozen 2
        have v3 := p0.frozen 3
        have v4 := p0.frozen 4
        have p1 : Blk (((((X1.setCell ⟨g, 0, none⟩ (.string e.path)).setCell ⟨g, 1, none⟩ (.bool e.has)).setCell ⟨g, 2, none⟩ (.string e.data)).setCell ⟨g, 3, none⟩ (.int .i64 e.l)).setCell ⟨g, 4, none⟩ (.int .i64 e.r)) g [.string e.path, .bool e.has, .string e.data, .int .i64 e.l, .int .i64 e.r] 34 := ((((p0.set_ 0 (.string e.path)).set_ 1 (.bool e.has)).set_ 2 (.string e.data)).set_ 3 (.int .i64 e.l)).set_ 4 (.int .i64 e.r)
        have hbw1 : Below wr.heap.size wr (((((X1.setCell ⟨g, 0, none⟩ (.string e.path)).setCell ⟨g, 1, none⟩ (.bool e.has)).setCell ⟨g, 2, none⟩ (.string e.data)).setCell ⟨g, 3, none⟩ (.int .i64 e.l)).setCell ⟨g, 4, none⟩ (.int .i64 e.r)) := ((((hbw.setCell (p := ⟨g, 0, none⟩) hg _).setCell (p := ⟨g, 1, none⟩) hg _).setCell (p := ⟨g, 2, none⟩) hg _).setCell (p := ⟨g, 3, none⟩) hg _).setCell (p := ⟨g, 4, none⟩) hg _
        generalize HX2 : ((((X1.setCell ⟨g, 0, none⟩ (.string e.path)).setCell ⟨g, 1, none⟩ (.bool e.has)).setCell ⟨g, 2, none⟩ (.string e.data)).setCell ⟨g, 3, none⟩ (.int .i64 e.l)).setCell ⟨g, 4, none⟩ (.int .i64 e.r) = X2 at p1 hbw1
        have m0 := (hbw1.cell (p := ⟨bl, ol, none⟩) hbl).trans e0
        have m1 := (hbw1.cell (p := ⟨bl, ol + 1, none⟩) hbl).trans e1
        have m2 := (hbw1.cell (p := ⟨bl, ol + 2, none⟩) hbl).trans e2
        have m3 := (hbw1.cell (p := ⟨bl, ol + 3, none⟩) hbl).trans e3
        have m4 := (hbw1.cell (p := ⟨bl, ol + 4, none⟩) hbl).trans e4
        refine wpAnyH_ready (rs := [5]) (by kernel_rfl) (by simp) ?_
        refine AllReadyH.cons (o := ⟨_, _, _, _, _, _⟩) rfl (fun K hK => ?_) AllReadyH.nil
        go_simp
        refine hK.out _ _ ⟨m0, m1, m2, m3, m4⟩ (fun hHeld => ?_)
        clear hK K
        try simp only [Act.put, List.setIfInBounds_toArray, List.set_cons_zero, List.set_cons_succ]
        refine wpAnyH_take (i := 6) (oi := ⟨_, _, _, _, _, _⟩) (v := ?_) rfl (by kernel_rfl) (by kernel_rfl) (by kernel_rfl) (fun _ _ _ h => h) (Or.inl ⟨by rfl, ?_⟩) (by assumption) ?_
        rotate_left
        · intro w hSw; (try dsimp only at hSw); go_simp; (try (with_reducible rfl))
        try simp only [Act.put, List.setIfInBounds_toArray, List.set_cons_zero, List.set_cons_succ]
        refine wpAnyH_done (by kernel_rfl) ?_ _
        clear hHeld HX2 p0 hbw u0 u1 u2 u3 u4 v0 v1 v2 v3 v4 m0 m1 m2 m3 m4
        have q0 := p1.cell 0
        have q1 := p1.cell 1
        have q2 := p1.cell 2
        have q3 := p1.cell 3
        have q4 := p1.cell 4
        simp only [List.getElem?_cons_zero, List.getElem?_cons_succ] at q0 q1 q2 q3 q4
        have hgX := p1.lt
        have f0'' := fun o => ((hbw1.alloc hbw1.size o).cell (p := ⟨bt, ot, none⟩) hbt).trans f0
        gi_wp2
        have P1 := p1.below ((Below.refl _ _).alloc (Nat.le_refl _) (.cells #[.string e.path, .bool false, .string ⟨#[]⟩, .int .i64 e.l, .int .i64 e.r] 34))
        have Q1 := Blk.new X2 [.string e.path, .bool false, .string ⟨#[]⟩, .int .i64 e.l, .int .i64 e.r] 34
        have hbX : Below wr.heap.size wr (X2.alloc (.cells #[.string e.path, .bool false, .string ⟨#[]⟩, .int .i64 e.l, .int .i64 e.r] 34)) := hbw1.alloc hbw1.size _
        have hg2 : wr.heap.size ≤ X2.heap.size := hbw1.size
        have hgg : g ≠ X2.heap.size := by omega
        generalize X2.alloc (.cells #[.string e.path, .bool false, .string ⟨#[]⟩, .int .i64 e.l, .int .i64 e.r] 34) = X at *
        generalize X2.heap.size = g2 at *
        have fX := (hbX.cell (p := ⟨bt, ot + 1, none⟩) hbt).trans f1
        refine wpIn_wide.2 ?_
        refine wp_region_held_drew (S := fun w' => w'.cell? ⟨bt, ot + 1, none⟩ = some (.string fd)) (by kernel_rfl) fX (fun hHeld => ?_)
        have P1 := P1.drew
        have Q1 := Q1.drew
        have hbX := hbX.drew
        clear fX
        generalize X.drew = X at *
        refine wpAnyH_take (i := 0) (oi := ⟨_, _, _, _, _, _⟩) (v := ?_) rfl (by kernel_rfl) (by kernel_rfl) (by kernel_rfl) (fun _ _ _ h => h) (Or.inl ⟨by rfl, ?_⟩) (by assumption) ?_
        rotate_left
        · intro w hSw; (try dsimp only at hSw); go_simp; (try (with_reducible rfl))
        try simp only [Act.put, List.setIfInBounds_toArray, List.set_cons_zero, List.set_cons_succ]
        refine wpAnyH_take (i := 1) (oi := ⟨_, _, _, _, _, _⟩) (v := ?_) rfl (by kernel_rfl) (by kernel_rfl) (by kernel_rfl) (fun _ _ _ h => h) (Or.inl ⟨by rfl, ?_⟩) (by assumption) ?_
        rotate_left
        · intro w hSw; (try dsimp only at hSw); go_simp; (try (with_reducible rfl))
        try simp only [Act.put, List.setIfInBounds_toArray, List.set_cons_zero, List.set_cons_succ]
        refine wpAnyH_take (i := 2) (oi := ⟨_, _, _, _, _, _⟩) (v := ?_) rfl (by kernel_rfl) (by kernel_rfl) (by kernel_rfl) (fun _ _ _ h => h) (Or.inl ⟨by rfl, ?_⟩) (by assumption) ?_
        rotate_left
        · intro w hSw; (try dsimp only at hSw); go_simp; (try (with_reducible rfl))
        try simp only [Act.put, List.setIfInBounds_toArray, List.set_cons_zero, List.set_cons_succ]
        refine wpAnyH_take (i := 3) (oi := ⟨_, _, _, _, _, _⟩) (v := ?_) rfl (by kernel_rfl) (by kernel_rfl) (by kernel_rfl) (fun _ _ _ h => h) (Or.inl ⟨by rfl, ?_⟩) (by assumption) ?_
        rotate_left
        · intro w hSw; (try dsimp only at hSw); go_simp; (try (with_reducible rfl))
        try simp only [Act.put, List.setIfInBounds_toArray, List.set_cons_zero, List.set_cons_succ]
        refine wpAnyH_take (i := 4) (oi := ⟨_, _, _, _, _, _⟩) (v := ?_) rfl (by kernel_rfl) (by kernel_rfl) (by kernel_rfl) (fun _ _ _ h => h) (Or.inl ⟨by rfl, ?_⟩) (by assumption) ?_
        rotate_left
        · intro w hSw; (try dsimp only at hSw); go_simp; (try (with_reducible rfl))
        try simp only [Act.put, List.setIfInBounds_toArray, List.set_cons_zero, List.set_cons_succ]
        refine wpAnyH_take (i := 5) (oi := ⟨_, _, _, _, _, _⟩) (v := ?_) rfl (by kernel_rfl) (by kernel_rfl) (by kernel_rfl) (fun _ _ _ h => h) (Or.inl ⟨by rfl, ?_⟩) (by assumption) ?_
        rotate_left
        · intro w hSw; (try dsimp only at hSw); go_simp; (try (with_reducible rfl))
        try simp only [Act.put, List.setIfInBounds_toArray, List.set_cons_zero, List.set_cons_succ]
        refine wpAnyH_take (i := 6) (oi := ⟨_, _, _, _, _, _⟩) (v := ?_) rfl (by kernel_rfl) (by kernel_rfl) (by kernel_rfl) (fun _ _ _ h => h) (Or.inl ⟨by rfl, ?_⟩) (by assumption) ?_
        rotate_left
        · intro w hSw; (try dsimp only at hSw); go_simp; (try (with_reducible rfl))
        try simp only [Act.put, List.setIfInBounds_toArray, List.set_cons_zero, List.set_cons_succ]
        have u0 := Q1.cell 0
        have u1 := Q1.cell 1
        have u2 := Q1.cell 2
        have u3 := Q1.cell 3
        have u4 := Q1.cell 4
        simp only [List.getElem?_cons_zero, List.getElem?_cons_succ] at u0 u1 u2 u3 u4
        have v1 := Q1.frozen 1
        have v2 := Q1.frozen 2
        have Q2 := (Q1.set_ 1 (.bool true))
        have hbY := hbX.setCell (p := ⟨g2, 1, none⟩) hg2 (.bool true)
        have P2 := P1.other hgg 1 (.bool true)
        have fY := (hbY.cell (p := ⟨bt, ot + 1, none⟩) hbt).trans f1
        simp only [List.set_cons_zero, List.set_cons_succ] at Q2
        refine wpAnyH_ready (rs := [7]) (by kernel_rfl) (by simp) ?_
        refine AllReadyH.cons (o := ⟨_, _, _, _, _, _⟩) rfl (fun K hK => ?_) AllReadyH.nil
        go_simp
        generalize X.setCell ⟨g2, 1, none⟩ (.bool true) = Y at *
        refine hK.out _ _ fY (fun hHeld => ?_)
        clear hK K
        try simp only [Act.put, List.setIfInBounds_toArray, List.set_cons_zero, List.set_cons_succ]
        refine wpAnyH_take (i := 8) (oi := ⟨_, _, _, _, _, _⟩) (v := ?_) rfl (by kernel_rfl) (by kernel_rfl) (by kernel_rfl) (fun _ _ _ h => h) (Or.inl ⟨by rfl, ?_⟩) (by assumption) ?_
        rotate_left
        · intro w hSw; (try dsimp only at hSw); go_simp; (try (with_reducible rfl))
        try simp only [Act.put, List.setIfInBounds_toArray, List.set_cons_zero, List.set_cons_succ]
        have y2 := Q2.cell 2
        have y3 := Q2.frozen 2
        have Q3 := (Q2.set_ 2 (.string fd))
        have hbZ := hbY.setCell (p := ⟨g2, 2, none⟩) hg2 (.string fd)
        have P3 := P2.other hgg 2 (.string fd)
        have fZ := (hbZ.cell (p := ⟨bt, ot + 1, none⟩) hbt).trans f1
        simp only [List.set_cons_zero, List.set_cons_succ, List.getElem?_cons_zero, List.getElem?_cons_succ] at Q3 y2
        refine wpAnyH_ready (rs := [9]) (by kernel_rfl) (by simp) ?_
        refine AllReadyH.cons (o := ⟨_, _, _, _, _, _⟩) rfl (fun K hK => ?_) AllReadyH.nil
        go_simp
        generalize Y.setCell ⟨g2, 2, none⟩ (.string fd) = Z at *
        refine hK.out _ _ fZ (fun hHeld => ?_)
        clear hK K
        try simp only [Act.put, List.setIfInBounds_toArray, List.set_cons_zero, List.set_cons_succ]
        refine wpAnyH_take (i := 10) (oi := ⟨_, _, _, _, _, _⟩) (v := ?_) rfl (by kernel_rfl) (by kernel_rfl) (by kernel_rfl) (fun _ _ _ h => h) (Or.inl ⟨by rfl, ?_⟩) (by assumption) ?_
        rotate_left
        · intro w hSw; (try dsimp only at hSw); go_simp; (try (with_reducible rfl))
        try simp only [Act.put, List.setIfInBounds_toArray, List.set_cons_zero, List.set_cons_succ]
        refine wpAnyH_done (by kernel_rfl) ?_ _
        clear hHeld u0 u1 u2 u3 u4 v1 v2 Q1 Q2 P1 P2 hbX hbY fY fZ y2 y3
        have r0 := P3.cell 0
        have r1 := P3.cell 1
        have r2 := P3.cell 2
        have r3 := P3.cell 3
        have r4 := P3.cell 4
        simp only [List.getElem?_cons_zero, List.getElem?_cons_succ] at r0 r1 r2 r3 r4
        have s0 := Q3.cell 0
        have s1 := Q3.cell 1
        have s2 := Q3.cell 2
        have s3 := Q3.cell 3
        have s4 := Q3.cell 4
        simp only [List.getElem?_cons_zero, List.getElem?_cons_succ] at s0 s1 s2 s3 s4
        have hJy := hJ' _ _ _ none hJp (grown_below (row := none) hbZ) (by simp)
        have hbz := hb.trans (hbZ.mono hb.size)
        obtain ⟨fn, tmps, assign, body, hy, hR⟩ := hY _ ⟨(_, _), hsx⟩ _ hJy (by omega)
        simp only [kept, eA] at hy
        clear hJy hbZ
        gi_wp2
        refine hR.mono ?_
        rintro ee W3 (⟨rfl, hJ3, hk3⟩ | ⟨rfl, hJx3⟩)
        · have hb3 := hbz.trans hk3
          clear hk3 hy hR
          gi_wp2
          go_roundw
          case rel => exact ⟨_, zs', el, t, A2, B2, c' - 1, d' - 1, rfl, rfl, hrA, hrB, by have hh1 := HN1'.out; have hh2 := HM1'.out; (first | omega | (simp; done) | (simp; omega)), by have hh1 := HN1'.out; have hh2 := HM1'.out; (first | omega | (simp; done) | (simp; omega)), hid (by rw [HY.out]; simp), HZ', by have hh1 := HN1'.out; have hh2 := HM1'.out; (first | omega | (simp; done) | (simp; omega)), hb3, hJ3⟩
          case measure => have hh1 := HN1'.out; have hh2 := HM1'.out; simp [sliceLen]; omega
        · gi_wp2
          refine bodyPost_ret (results_none rfl _ _ _) rfl ?_
          exact ⟨⟨_, rfl⟩, .inr ⟨_, ⟨zs', by rw [HY.out]; simp⟩, hJx3⟩⟩
      · cases hlt : Op.bytesLess (pth f) (epth e) with
        | true =>
          have HP : Hid (lesP (e :: el) (f :: t) = f.1) := by show _ = _; rw [lesP, if_pos hlt]
          have hne : (e.path.toList == f.1.toList) = false := by rw [str_eqb]; exact decide_eq_false hef
          have c0 := lesser_any (c := c') (d := d') (es := (e :: el)) rfl (hr1.below hb) (fs := (f :: t)) rfl (hr2'.below hb) (by simp)
          rw [show lesP (e :: el) (f :: t) = f.1 from HP.out] at c0
          obtain ⟨A2, hsA, hrA⟩ := ent_tail hr1 hc1
          obtain ⟨bl, ol, rfl, e0, e1, e2, e3, e4, hbl⟩ := (hr1.below hb).ent (j := 0) (by simp)
          simp only [List.getElem_cons_zero, Nat.zero_mul, Nat.add_zero] at e0 e1 e2 e3 e4
          obtain ⟨B2, hsB, hrB⟩ := fil_tail hr2' hc2'
          obtain ⟨bt, ot, rfl, f0, f1, hbt⟩ := (hr2'.below hb).fil (j := 0) (by simp)
          simp only [List.getElem_cons_zero, Nat.zero_mul, Nat.add_zero] at f0 f1
          obtain ⟨x, zs', rfl, hx, hz⟩ := List.map_eq_cons_iff.1 (HZ.out.trans (bothL_lt hef hlt el t))
          obtain ⟨⟨wx, ix⟩, hsx⟩ := x
          simp only [Prod.mk.injEq] at hx
          obtain ⟨rfl, rfl⟩ := And.intro hx.1.symm hx.2.symm
          have HZ' := hid hz
          clear hz HZ
          simp only [List.length_cons] at *
          have hn1 : 0 < el.length + 1 := by omega
          generalize HN1 : el.length + 1 = n1 at *
          have HN1' := hid HN1
          clear HN1
          have hm1 : 0 < t.length + 1 := by omega
          generalize HM1 : t.length + 1 = m1 at *
          have HM1' := hid HM1
          clear HM1
          gi_wp2_with (refine ⟨trivial, ?_⟩; gi_at_call 93; refine (callsIn_wide.2 c0).mono ?_; rintro ee w1 ⟨rfl, hb1⟩; have e0' := fun o => ((hb1.alloc hb1.size o).cell (p := ⟨bl, ol, none⟩) hbl).trans e0; have f0' := fun o1 o2 => (((hb1.alloc hb1.size o1).alloc (hb1.alloc hb1.size o1).size o2).cell (p := ⟨bt, ot, none⟩) hbt).trans f0)
          clear c0
          have P1 : Blk ((w1.alloc (.cells #[.string f.1, .bool false, .string ⟨#[]⟩, .int .i64 0, .int .i64 0] 34)).alloc (.cells #[.string f.1, .bool false, .string ⟨#[]⟩, .int .i64 0, .int .i64 0] 34)) w1.heap.size [.string f.1, .bool false, .string ⟨#[]⟩, .int .i64 0, .int .i64 0] 34 := (Blk.new w1 [.string f.1, .bool false, .string ⟨#[]⟩, .int .i64 0, .int .i64 0] 34).below ((Below.refl _ _).alloc (Nat.le_refl _) _)
          have Q1 := Blk.new (w1.alloc (.cells #[.string f.1, .bool false, .string ⟨#[]⟩, .int .i64 0, .int .i64 0] 34)) [.string f.1, .bool false, .string ⟨#[]⟩, .int .i64 0, .int .i64 0] 34
          rw [World.size_alloc] at Q1
          have hbX : Below wr.heap.size wr ((w1.alloc (.cells #[.string f.1, .bool false, .string ⟨#[]⟩, .int .i64 0, .int .i64 0] 34)).alloc (.cells #[.string f.1, .bool false, .string ⟨#[]⟩, .int .i64 0, .int .i64 0] 34)) := (hb1.alloc hb1.size _).alloc (by have := hb1.size; simp; omega) _
          have hg : wr.heap.size ≤ w1.heap.size := hb1.size
          have hg2 : wr.heap.size ≤ w1.heap.size + 1 := by omega
          have hgg : w1.heap.size ≠ w1.heap.size + 1 := by omega
          generalize (w1.alloc (.cells #[.string f.1, .bool false, .string ⟨#[]⟩, .int .i64 0, .int .i64 0] 34)).alloc (.cells #[.string f.1, .bool false, .string ⟨#[]⟩, .int .i64 0, .int .i64 0] 34) = X at *
          generalize w1.heap.size + 1 = g2 at *
          generalize w1.heap.size = g at *
          have fX := (hbX.cell (p := ⟨bt, ot + 1, none⟩) hbt).trans f1
          refine wpIn_wide.2 ?_
          refine wp_region_held_drew (S := fun w' => w'.cell? ⟨bt, ot + 1, none⟩ = some (.string f.2)) (by kernel_rfl) fX (fun hHeld => ?_)
          have P1 := P1.drew
          have Q1 := Q1.drew
          have hbX := hbX.drew
          clear fX
          generalize X.drew = X at *
          refine wpAnyH_take (i := 0) (oi := ⟨_, _, _, _, _, _⟩) (v := ?_) rfl (by kernel_rfl) (by kernel_rfl) (by kernel_rfl) (fun _ _ _ h => h) (Or.inl ⟨by rfl, ?_⟩) (by assumption) ?_
          rotate_left
          · intro w hSw; (try dsimp only at hSw); go_simp; (try (with_reducible rfl))
          try simp only [Act.put, List.setIfInBounds_toArray, List.set_cons_zero, List.set_cons_succ]
          refine wpAnyH_take (i := 1) (oi := ⟨_, _, _, _, _, _⟩) (v := ?_) rfl (by kernel_rfl) (by kernel_rfl) (by kernel_rfl) (fun _ _ _ h => h) (Or.inl ⟨by rfl, ?_⟩) (by assumption) ?_
          rotate_left
          · intro w hSw; (try dsimp only at hSw); go_simp; (try (with_reducible rfl))
          try simp only [Act.put, List.setIfInBounds_toArray, List.set_cons_zero, List.set_cons_succ]
          refine wpAnyH_take (i := 2) (oi := ⟨_, _, _, _, _, _⟩) (v := ?_) rfl (by kernel_rfl) (by kernel_rfl) (by kernel_rfl) (fun _ _ _ h => h) (Or.inl ⟨by rfl, ?_⟩) (by assumption) ?_
          rotate_left
          · intro w hSw; (try dsimp only at hSw); go_simp; (try (with_reducible rfl))
          try simp only [Act.put, List.setIfInBounds_toArray, List.set_cons_zero, List.set_cons_succ]
          refine wpAnyH_take (i := 3) (oi := ⟨_, _, _, _, _, _⟩) (v := ?_) rfl (by kernel_rfl) (by kernel_rfl) (by kernel_rfl) (fun _ _ _ h => h) (Or.inl ⟨by rfl, ?_⟩) (by assumption) ?_
          rotate_left
          · intro w hSw; (try dsimp only at hSw); go_simp; (try (with_reducible rfl))
          try simp only [Act.put, List.setIfInBounds_toArray, List.set_cons_zero, List.set_cons_succ]
          refine wpAnyH_take (i := 4) (oi := ⟨_, _, _, _, _, _⟩) (v := ?_) rfl (by kernel_rfl) (by kernel_rfl) (by kernel_rfl) (fun _ _ _ h => h) (Or.inl ⟨by rfl, ?_⟩) (by assumption) ?_
          rotate_left
          · intro w hSw; (try dsimp only at hSw); go_simp; (try (with_reducible rfl))
          try simp only [Act.put, List.setIfInBounds_toArray, List.set_cons_zero, List.set_cons_succ]
          refine wpAnyH_take (i := 5) (oi := ⟨_, _, _, _, _, _⟩) (v := ?_) rfl (by kernel_rfl) (by kernel_rfl) (by kernel_rfl) (fun _ _ _ h => h) (Or.inl ⟨by rfl, ?_⟩) (by assumption) ?_
          rotate_left
          · intro w hSw; (try dsimp only at hSw); go_simp; (try (with_reducible rfl))
          try simp only [Act.put, List.setIfInBounds_toArray, List.set_cons_zero, List.set_cons_succ]
          refine wpAnyH_take (i := 6) (oi := ⟨_, _, _, _, _, _⟩) (v := ?_) rfl (by kernel_rfl) (by kernel_rfl) (by kernel_rfl) (fun _ _ _ h => h) (Or.inl ⟨by rfl, ?_⟩) (by assumption) ?_
          rotate_left
          · intro w hSw; (try dsimp only at hSw); go_simp; (try (with_reducible rfl))
          try simp only [Act.put, List.setIfInBounds_toArray, List.set_cons_zero, List.set_cons_succ]
          have u0 := Q1.cell 0
          have u1 := Q1.cell 1
          have u2 := Q1.cell 2
          have u3 := Q1.cell 3
          have u4 := Q1.cell 4
          simp only [List.getElem?_cons_zero, List.getElem?_cons_succ] at u0 u1 u2 u3 u4
          have v1 := Q1.frozen 1
          have v2 := Q1.frozen 2
          have Q2 := (Q1.set_ 1 (.bool true))
          have hbY := hbX.setCell (p := ⟨g2, 1, none⟩) hg2 (.bool true)
          have P2 := P1.other hgg 1 (.bool true)
          have fY := (hbY.cell (p := ⟨bt, ot + 1, none⟩) hbt).trans f1
          simp only [List.set_cons_zero, List.set_cons_succ] at Q2
          refine wpAnyH_ready (rs := [7]) (by kernel_rfl) (by simp) ?_
          refine AllReadyH.cons (o := ⟨_, _, _, _, _, _⟩) rfl (fun K hK => ?_) AllReadyH.nil
          go_simp
          generalize X.setCell ⟨g2, 1, none⟩ (.bool true) = Y at *
          refine hK.out _ _ fY (fun hHeld => ?_)
          clear hK K
          try simp only [Act.put, List.setIfInBounds_toArray, List.set_cons_zero, List.set_cons_succ]
          refine wpAnyH_take (i := 8) (oi := ⟨_, _, _, _, _, _⟩) (v := ?_) rfl (by kernel_rfl) (by kernel_rfl) (by kernel_rfl) (fun _ _ _ h => h) (Or.inl ⟨by rfl, ?_⟩) (by assumption) ?_
          rotate_left
          · intro w hSw; (try dsimp only at hSw); go_simp; (try (with_reducible rfl))
          try simp only [Act.put, List.setIfInBounds_toArray, List.set_cons_zero, List.set_cons_succ]
          have y2 := Q2.cell 2
          have y3 := Q2.frozen 2
          have Q3 := (Q2.set_ 2 (.string f.2))
          have hbZ := hbY.setCell (p := ⟨g2, 2, none⟩) hg2 (.string f.2)
          have P3 := P2.other hgg 2 (.string f.2)
          have fZ := (hbZ.cell (p := ⟨bt, ot + 1, none⟩) hbt).trans f1
          simp only [List.set_cons_zero, List.set_cons_succ, List.getElem?_cons_zero, List.getElem?_cons_succ] at Q3 y2
          refine wpAnyH_ready (rs := [9]) (by kernel_rfl) (by simp) ?_
          refine AllReadyH.cons (o := ⟨_, _, _, _, _, _⟩) rfl (fun K hK => ?_) AllReadyH.nil
          go_simp
          generalize Y.setCell ⟨g2, 2, none⟩ (.string f.2) = Z at *
          refine hK.out _ _ fZ (fun hHeld => ?_)
          clear hK K
          try simp only [Act.put, List.setIfInBounds_toArray, List.set_cons_zero, List.set_cons_succ]
          refine wpAnyH_take (i := 10) (oi := ⟨_, _, _, _, _, _⟩) (v := ?_) rfl (by kernel_rfl) (by kernel_rfl) (by kernel_rfl) (fun _ _ _ h => h) (Or.inl ⟨by rfl, ?_⟩) (by assumption) ?_
          rotate_left
          · intro w hSw; (try dsimp only at hSw); go_simp; (try (with_reducible rfl))
          try simp only [Act.put, List.setIfInBounds_toArray, List.set_cons_zero, List.set_cons_succ]
          refine wpAnyH_done (by kernel_rfl) ?_ _
          clear hHeld u0 u1 u2 u3 u4 v1 v2 Q1 Q2 P1 P2 hbX hbY fY fZ y2 y3
          have r0 := P3.cell 0
          have r1 := P3.cell 1
          have r2 := P3.cell 2
          have r3 := P3.cell 3
          have r4 := P3.cell 4
          simp only [List.getElem?_cons_zero, List.getElem?_cons_succ] at r0 r1 r2 r3 r4
          have s0 := Q3.cell 0
          have s1 := Q3.cell 1
          have s2 := Q3.cell 2
          have s3 := Q3.cell 3
          have s4 := Q3.cell 4
          simp only [List.getElem?_cons_zero, List.getElem?_cons_succ] at s0 s1 s2 s3 s4
          have hJy := hJ' _ _ _ none hJp (grown_below (row := none) hbZ) (by simp)
          have hbz := hb.trans (hbZ.mono hb.size)
          obtain ⟨fn, tmps, assign, body, hy, hR⟩ := hY _ ⟨(_, _), hsx⟩ _ hJy (by omega)
          simp only [kept, fresh, noS, eA] at hy
          clear hJy hbZ
          gi_wp2
          refine hR.mono ?_
          rintro ee W3 (⟨rfl, hJ3, hk3⟩ | ⟨rfl, hJx3⟩)
          · have hb3 := hbz.trans hk3
            clear hk3 hy hR
            gi_wp2
            go_roundw
            case rel => exact ⟨_, zs', e :: el, t, _, B2, c', d' - 1, by rw [← HN1'.out]; rfl, rfl, hr1, hrB, by have hh1 := HN1'.out; have hh2 := HM1'.out; (first | omega | (simp; done) | (simp; omega)), by have hh1 := HN1'.out; have hh2 := HM1'.out; (first | omega | (simp; done) | (simp; omega)), hid (by rw [HY.out]; simp), HZ', by have hh1 := HN1'.out; have hh2 := HM1'.out; (first | omega | (simp; done) | (simp; omega)), hb3, hJ3⟩
            case measure => have hh1 := HN1'.out; have hh2 := HM1'.out; simp [sliceLen]; omega
          · gi_wp2
            refine bodyPost_ret (results_none rfl _ _ _) rfl ?_
            exact ⟨⟨_, rfl⟩, .inr ⟨_, ⟨zs', by rw [HY.out]; simp⟩, hJx3⟩⟩
        | false =>
          have HP : Hid (lesP (e :: el) (f :: t) = e.path) := by show _ = _; rw [lesP, if_neg (by simp [hlt])]
          have hne : (f.1.toList == e.path.toList) = false := by rw [str_eqb]; exact decide_eq_false (Ne.symm hef)
          have c0 := lesser_any (c := c') (d := d') (es := (e :: el)) rfl (hr1.below hb) (fs := (f :: t)) rfl (hr2'.below hb) (by simp)
          rw [show lesP (e :: el) (f :: t) = e.path from HP.out] at c0
          obtain ⟨A2, hsA, hrA⟩ := ent_tail hr1 hc1
          obtain ⟨bl, ol, rfl, e0, e1, e2, e3, e4, hbl⟩ := (hr1.below hb).ent (j := 0) (by simp)
          simp only [List.getElem_cons_zero, Nat.zero_mul, Nat.add_zero] at e0 e1 e2 e3 e4
          obtain ⟨B2, hsB, hrB⟩ := fil_tail hr2' hc2'
          obtain ⟨bt, ot, rfl, f0, f1, hbt⟩ := (hr2'.below hb).fil (j := 0) (by simp)
          simp only [List.getElem_cons_zero, Nat.zero_mul, Nat.add_zero] at f0 f1
          obtain ⟨x, zs', rfl, hx, hz⟩ := List.map_eq_cons_iff.1 (HZ.out.trans (bothL_gt hef hlt el t))
          obtain ⟨⟨wx, ix⟩, hsx⟩ := x
          simp only [Prod.mk.injEq] at hx
          obtain ⟨rfl, rfl⟩ := And.intro hx.1.symm hx.2.symm
          have HZ' := hid hz
          clear hz HZ
          simp only [List.length_cons] at *
          have hn1 : 0 < el.length + 1 := by omega
          generalize HN1 : el.length + 1 = n1 at *
          have HN1' := hid HN1
          clear HN1
          have hm1 : 0 < t.length + 1 := by omega
          generalize HM1 : t.length + 1 = m1 at *
          have HM1' := hid HM1
          clear HM1
          gi_wp2_with (refine ⟨trivial, ?_⟩; gi_at_call 93; refine (callsIn_wide.2 c0).mono ?_; rintro ee w1 ⟨rfl, hb1⟩; have e0' := fun o => ((hb1.alloc hb1.size o).cell (p := ⟨bl, ol, none⟩) hbl).trans e0)
          clear c0
          have p0 := Blk.new w1 [.string e.path, .bool false, .string ⟨#[]⟩, .int .i64 0, .int .i64 0] 34
          have hbw : Below wr.heap.size wr (w1.alloc (.cells #[.string e.path, .bool false, .string ⟨#[]⟩, .int .i64 0, .int .i64 0] 34)) := hb1.alloc hb1.size _
          have hg : wr.heap.size ≤ w1.heap.size := hb1.size
          obtain ⟨X1, hX1⟩ : ∃ X1, w1.alloc (.cells #[.string e.path, .bool false, .string ⟨#[]⟩, .int .i64 0, .int .i64 0] 34) = X1 := ⟨_, rfl⟩
          rw [hX1]
          rw [show Blk _ w1.heap.size _ _ = Blk X1 w1.heap.size [.string e.path, .bool false, .string ⟨#[]⟩, .int .i64 0, .int .i64 0] 34 from by rw [← hX1]] at p0
          rw [hX1] at hbw
          clear hX1 hb1
          have hsz1 := p0.lt
          generalize w1.heap.size = g at *
          have k0 := (hbw.cell (p := ⟨bl, ol, none⟩) hbl).trans e0
          have k1 := (hbw.cell (p := ⟨bl, ol + 1, none⟩) hbl).trans e1
          have k2 := (hbw.cell (p := ⟨bl, ol + 2, none⟩) hbl).trans e2
          have k3 := (hbw.cell (p := ⟨bl, ol + 3, none⟩) hbl).trans e3
          have k4 := (hbw.cell (p := ⟨bl, ol + 4, none⟩) hbl).trans e4
          refine wpIn_wide.2 ?_
          refine wp_region_held_drew (S := fun w' => w'.cell? ⟨bl, ol, none⟩ = some (.string e.path) ∧ w'.cell? ⟨bl, ol + 1, none⟩ = some (.bool e.has) ∧ w'.cell? ⟨bl, ol + 2, none⟩ = some (.string e.data) ∧ w'.cell? ⟨bl, ol + 3, none⟩ = some (.int .i64 e.l) ∧ w'.cell? ⟨bl, ol + 4, none⟩ = some (.int .i64 e.r)) (by kernel_rfl) ⟨k0, k1, k2, k3, k4⟩ (fun hHeld => ?_)
          have p0 := p0.drew
          have hbw := hbw.drew
          clear k0 k1 k2 k3 k4
          generalize X1.drew = X1 at *
          refine wpAnyH_take (i := 0) (oi := ⟨_, _, _, _, _, _⟩) (v := ?_) rfl (by kernel_rfl) (by kernel_rfl) (by kernel_rfl) (fun _ _ _ h => h) (Or.inl ⟨by rfl, ?_⟩) (by assumption) ?_
          rotate_left
          · intro w hSw; (try dsimp only at hSw); go_simp; (try (with_reducible rfl))
          try simp only [Act.put, List.setIfInBounds_toArray, List.set_cons_zero, List.set_cons_succ]
          refine wpAnyH_take (i := 1) (oi := ⟨_, _, _, _, _, _⟩) (v := ?_) rfl (by kernel_rfl) (by kernel_rfl) (by kernel_rfl) (fun _ _ _ h => h) (Or.inl ⟨by rfl, ?_⟩) (by assumption) ?_
          rotate_left
          · intro w hSw; (try dsimp only at hSw); go_simp; (try (with_reducible rfl))
          try simp only [Act.put, List.setIfInBounds_toArray, List.set_cons_zero, List.set_cons_succ]
          refine wpAnyH_take (i := 2) (oi := ⟨_, _, _, _, _, _⟩) (v := ?_) rfl (by kernel_rfl) (by kernel_rfl) (by kernel_rfl) (fun _ _ _ h => h) (Or.inl ⟨by rfl, ?_⟩) (by assumption) ?_
          rotate_left
          · intro w hSw; (try dsimp only at hSw); go_simp; (try (with_reducible rfl))
          try simp only [Act.put, List.setIfInBounds_toArray, List.set_cons_zero, List.set_cons_succ]
          refine wpAnyH_take (i := 3) (oi := ⟨_, _, _, _, _, _⟩) (v := ?_) rfl (by kernel_rfl) (by kernel_rfl) (by kernel_rfl) (fun _ _ _ h => h) (Or.inl ⟨by rfl, ?_⟩) (by assumption) ?_
          rotate_left
          · intro w hSw; (try dsimp only at hSw); go_simp; (try (with_reducible rfl))
          try simp only [Act.put, List.setIfInBounds_toArray, List.set_cons_zero, List.set_cons_succ]
          refine wpAnyH_take (i := 4) (oi := ⟨_, _, _, _, _, _⟩) (v := ?_) rfl (by kernel_rfl) (by kernel_rfl) (by kernel_rfl) (fun _ _ _ h => h) (Or.inl ⟨by rfl, ?_⟩) (by assumption) ?_
          rotate_left
          · intro w hSw; (try dsimp only at hSw); go_simp; (try (with_reducible rfl))
          try simp only [Act.put, List.setIfInBounds_toArray, List.set_cons_zero, List.set_cons_succ]
          have u0 := p0.cell 0
          have u1 := p0.cell 1
          have u2 := p0.cell 2
          have u3 := p0.cell 3
          have u4 := p0.cell 4
          simp only [List.getElem?_cons_zero, List.getElem?_cons_succ] at u0 u1 u2 u3 u4
          have v0 := p0.frozen 0
          have v1 := p0.frozen 1
          have v2 := p0.frozen 2
          have v3 := p0.frozen 3
          have v4 := p0.frozen 4
          have p1 : Blk (((((X1.setCell ⟨g, 0, none⟩ (.string e.path)).setCell ⟨g, 1, none⟩ (.bool e.has)).setCell ⟨g, 2, none⟩ (.string e.data)).setCell ⟨g, 3, none⟩ (.int .i64 e.l)).setCell ⟨g, 4, none⟩ (.int .i64 e.r)) g [.string e.path, .bool e.has, .string e.data, .int .i64 e.l, .int .i64 e.r] 34 := ((((p0.set_ 0 (.string e.path)).set_ 1 (.bool e.has)).set_ 2 (.string e.data)).set_ 3 (.int .i64 e.l)).set_ 4 (.int .i64 e.r)
          have hbw1 : Below wr.heap.size wr (((((X1.setCell ⟨g, 0, none⟩ (.string e.path)).setCell ⟨g, 1, none⟩ (.bool e.has)).setCell ⟨g, 2, none⟩ (.string e.data)).setCell ⟨g, 3, none⟩ (.int .i64 e.l)).setCell ⟨g, 4, none⟩ (.int .i64 e.r)) := ((((hbw.setCell (p := ⟨g, 0, none⟩) hg _).setCell (p := ⟨g, 1, none⟩) hg _).setCell (p := ⟨g, 2, none⟩) hg _).setCell (p := ⟨g, 3, none⟩) hg _).setCell (p := ⟨g, 4, none⟩) hg _
          generalize HX2 : ((((X1.setCell ⟨g, 0, none⟩ (.string e.path)).setCell ⟨g, 1, none⟩ (.bool e.has)).setCell ⟨g, 2, none⟩ (.string e.data)).setCell ⟨g, 3, none⟩ (.int .i64 e.l)).setCell ⟨g, 4, none⟩ (.int .i64 e.r) = X2 at p1 hbw1
          have m0 := (hbw1.cell (p := ⟨bl, ol, none⟩) hbl).trans e0
          have m1 := (hbw1.cell (p := ⟨bl, ol + 1, none⟩) hbl).trans e1
          have m2 := (hbw1.cell (p := ⟨bl, ol + 2, none⟩) hbl).trans e2
          have m3 := (hbw1.cell (p := ⟨bl, ol + 3, none⟩) hbl).trans e3
          have m4 := (hbw1.cell (p := ⟨bl, ol + 4, none⟩) hbl).trans e4
          refine wpAnyH_ready (rs := [5]) (by kernel_rfl) (by simp) ?_
          refine AllReadyH.cons (o := ⟨_, _, _, _, _, _⟩) rfl (fun K hK => ?_) AllReadyH.nil
          go_simp
          refine hK.out _ _ ⟨m0, m1, m2, m3, m4⟩ (fun hHeld => ?_)
          clear hK K
          try simp only [Act.put, List.setIfInBounds_toArray, List.set_cons_zero, List.set_cons_succ]
          refine wpAnyH_take (i := 6) (oi := ⟨_, _, _, _, _, _⟩) (v := ?_) rfl (by kernel_rfl) (by kernel_rfl) (by kernel_rfl) (fun _ _ _ h => h) (Or.inl ⟨by rfl, ?_⟩) (by assumption) ?_
          rotate_left
          · intro w hSw; (try dsimp only at hSw); go_simp; (try (with_reducible rfl))
          try simp only [Act.put, List.setIfInBounds_toArray, List.set_cons_zero, List.set_cons_succ]
          refine wpAnyH_done (by kernel_rfl) ?_ _
          clear hHeld HX2 p0 hbw u0 u1 u2 u3 u4 v0 v1 v2 v3 v4 m0 m1 m2 m3 m4
          have q0 := p1.cell 0
          have q1 := p1.cell 1
          have q2 := p1.cell 2
          have q3 := p1.cell 3
          have q4 := p1.cell 4
          simp only [List.getElem?_cons_zero, List.getElem?_cons_succ] at q0 q1 q2 q3 q4
          have hgX := p1.lt
          have f0'' := fun o => ((hbw1.alloc hbw1.size o).cell (p := ⟨bt, ot, none⟩) hbt).trans f0
          have hbZ : Below wr.heap.size wr (X2.alloc (.cells #[.string e.path, .bool false, .string ⟨#[]⟩, .int .i64 e.l, .int .i64 e.r] 34)) := hbw1.alloc hbw1.size _
          have hJy := hJ' _ _ _ none hJp (grown_below (row := none) hbZ) (by simp)
          have hbz := hb.trans (hbZ.mono hb.size)
          obtain ⟨fn, tmps, assign, body, hy, hR⟩ := hY _ ⟨(_, _), hsx⟩ _ hJy (by omega)
          simp only [gone, noS, eA] at hy
          clear hJy hbZ
          gi_wp2
          refine hR.mono ?_
          rintro ee W3 (⟨rfl, hJ3, hk3⟩ | ⟨rfl, hJx3⟩)
          · have hb3 := hbz.trans hk3
            clear hk3 hy hR
            gi_wp2
            go_roundw
            case rel => exact ⟨_, zs', el, f :: t, A2, _, c' - 1, d', rfl, by rw [← HM1'.out]; rfl, hrA, hr2', by have hh1 := HN1'.out; have hh2 := HM1'.out; (first | omega | (simp; done) | (simp; omega)), by have hh1 := HN1'.out; have hh2 := HM1'.out; (first | omega | (simp; done) | (simp; omega)), hid (by rw [HY.out]; simp), HZ', by have hh1 := HN1'.out; have hh2 := HM1'.out; (first | omega | (simp; done) | (simp; omega)), hb3, hJ3⟩
            case measure => have hh1 := HN1'.out; have hh2 := HM1'.out; simp [sliceLen]; omega
          · gi_wp2
            refine bodyPost_ret (results_none rfl _ _ _) rfl ?_
            exact ⟨⟨_, rfl⟩, .inr ⟨_, ⟨zs', by rw [HY.out]; simp⟩, hJx3⟩⟩
/-- The pairs, each with its sizes. -/
def bothT (es : List Ent) (fs : List Fil) (h : ∀ p ∈ bothL es fs, SzE p.2) : List S2 := (bothL es fs).pmap (fun p hp => ⟨p, hp⟩) h
theorem bothT_val (es : List Ent) (fs : List Fil) (h : ∀ p ∈ bothL es fs, SzE p.2) : (bothT es fs h).map (·.1) = bothL es fs := by simp [bothT, List.map_pmap]
theorem both_sz {es : List Ent} {fs : List Fil} (h1 : ∀ e ∈ es, SzE e) (h2 : ∀ f ∈ fs, SzF f) : ∀ p ∈ bothL es fs, SzE p.2 := by
  intro p hp
  have hP := both_pair es fs p hp
  have hpath : p.2.path.size < 4294967281 := by
    rw [hP.path]
    rcases hP.was with h | ⟨h, h3⟩
    · exact (h1 _ h).1
    · have := (h2 _ (hP.is h3)).1
      rw [← hP.path]; exact this
  refine ⟨hpath, ?_⟩
  cases hh : p.2.has with
  | true => exact (h2 _ (hP.is hh)).2
  | false => rw [hP.none hh]; exact Nat.zero_le _
theorem both_stops (k : Nat) (hk : 1 ≤ k) (Bl Bt : Nat) (w0 w : World) (A B : Option Addr) (n c m d : Nat) (es : List Ent) (fs : List Fil) (hl : es.length = n) (hr : Rd w0 A (entV es)) (hc : n ≤ c) (hl2 : fs.length = m) (hr2 : Rd w0 B (filV fs)) (hc2 : m ≤ d)
    (hsz : ∀ p ∈ bothL es fs, SzE p.2) (hBl : Bl < w.heap.size) (hB : w.cell? ⟨Bl, 0, none⟩ = some (.slice A n c)) (hBt : Bt < w.heap.size) (hB2 : w.cell? ⟨Bt, 0, none⟩ = some (.slice B m d)) (hw : Below w0.heap.size w0 w) :
    SeqStopsK Fence.wide k Tryz.prog 92 #[.pointer (some ⟨Bl, 0, none⟩), .pointer (some ⟨Bt, 0, none⟩)] (fun x : S2 => #[eA x.1.1, eA x.1.2]) (Below w0.heap.size) (fun ys => ys = bothT es fs hsz) (fun pre => pre <+: bothT es fs hsz) (n + m) w := fun l J Jx W hW hJ _ hY h0 =>
  both1_in k hk l Bl Bt w0 A B n c m d es fs hl hr hc hl2 hr2 hc2 (bothT es fs hsz) (bothT_val es fs hsz) J Jx W hJ hY ((hW.cell (p := ⟨Bl, 0, none⟩) hBl).trans hB) ((hW.cell (p := ⟨Bt, 0, none⟩) hBt).trans hB2) (hw.trans (hW.mono hw.size)) h0
end Go.Proofs.YtlmccjdpmhancaaGreatDoor
namespace Go.Proofs.YtlmccjdpmhancaaGreatDoor
open Go.RowKit Go.Shelf

/-- append of one element, whose value is put into a box. -/
theorem app_gen {W : World} {n₀ B : Nat} {v : Value} {k : Nat} {xs : List Value} {T E : TypeId} {z : Value} {size bytes : Nat} (hT : Tryz.prog.underlying T = some (.slice E)) (hinf : (Tryz.prog.info? E).map (fun i => (i.zero, i.size, i.bytes)) = some (some z, size, bytes)) (hz : z.cells.size = size) (h0 : 0 < size) (hTE : T ≠ E)
    (hv : Boxed W B T v) (hrow : W.ownsRow n₀ E size v k xs) (hn : n₀ ≤ W.heap.size) (hB : n₀ ≤ B) (hk : (k + 1) * bytes ≤ 140737488355328) (hk2 : k + 1 ≤ maxLen) (cs : List Value) (hcs : cs.length = 1 * size) (hc1 : ∀ u ∈ cs, u.oneCell' = true) :
    ∃ A' c' w1, Hid ((Builtin.append_ #[T, T] T #[v, .slice (some ⟨W.heap.size, 0, none⟩) 1 1]).run Tryz.prog (W.alloc (.cells cs.toArray E)) = .ok (.slice A' (k + 1) c') w1) ∧
      w1.cell? ⟨B, 0, none⟩ = some v ∧ w1.frozen? ⟨B, 0, none⟩ = false ∧ Boxed (w1.setCell ⟨B, 0, none⟩ (.slice A' (k + 1) c')) B T (.slice A' (k + 1) c') ∧
      (w1.setCell ⟨B, 0, none⟩ (.slice A' (k + 1) c')).ownsRow n₀ E size (.slice A' (k + 1) c') (k + 1) (xs ++ cs) ∧ KeepsOthers W (w1.setCell ⟨B, 0, none⟩ (.slice A' (k + 1) c')) ∧ Below n₀ W (w1.setCell ⟨B, 0, none⟩ (.slice A' (k + 1) c')) ∧ (W.alloc (.cells cs.toArray E)).grownBy w1 v.ownBlock := by
  obtain ⟨i, hi, hz0, hz1, hz2⟩ := info_parts hinf
  obtain ⟨v', w1, h2, h3, h4, -⟩ := run_append_own (P := Tryz.prog) (W.alloc (.cells cs.toArray E)) n₀ T T E i z size bytes hT hi hz0 hz1 hz2 hz h0 v k xs (hrow.alloc _) ⟨W.heap.size, 0, none⟩ 1 1 cs hcs
    (new_cells W E cs) hc1 hk2 hk (by simp; omega)
  obtain ⟨g', cap', rfl⟩ := ownsRow_succ h3
  obtain ⟨a1, a2, a3, a4, a5⟩ := hv.appended hTE hrow hn hB h3 h4
  exact ⟨_, _, w1, h2, a1.cell, a1.frozen, a2, a3, a4, a5, h4⟩

/-- A tick, as the code tells it. -/
def tkc (l r a : Int) : Nat × Nat := if odd a then (cl l, up (cl r)) else (up (cl l), cl r)
theorem tkc_le (l r a : Int) : (tkc l r a).1 ≤ 1073741824 ∧ (tkc l r a).2 ≤ 1073741824 := by
  unfold tkc
  split
  · exact ⟨cl_le l, up_le _⟩
  · exact ⟨up_le _, cl_le r⟩
theorem tickL_eq (l r a : Int) : tickL l r a = (((tkc l r a).1 : Int), ((tkc l r a).2 : Int)) := by unfold tickL tkc; split <;> rfl
theorem tick_any (l r a : Int) (w : World) :
    Calls Tryz.prog 52 #[.complex .f64 (fl (cl l)) (fl (cl r)), .int .i64 a] w fun e w' => e = .returned (.complex .f64 (fl (tkc l r a).1) (fl (tkc l r a).2)) ∧ Below w.heap.size w w' := by
  unfold tkc
  cases ho : odd a with
  | true => exact tick_odd (cl_le l) (cl_le r) a ho w
  | false => exact tick_even (cl_le l) (cl_le r) a ho w

theorem boxed_kept {W W' : World} {row : Option Nat} {B : Nat} {t : TypeId} {v : Value} (h : Boxed W B t v) (hg : W.grownBy W' row) (hr : ∀ r, row = some r → ∃ o : Obj, W.heap[r]? = some o ∧ o.isCells = false) : Boxed W' B t v :=
  blk_kept (cs := [v]) h hg hr

/-- What Scan holds between two rounds: the author, the three results, what was scanned, what changed. -/
structure ScS (w : World) (a : Int) (q : Nat) (out : List Ent) (ch : List ByteArray) (W : World) : Prop where
  sc : ∃ v, Boxed W q 22 v ∧ W.ownsRow w.heap.size 34 5 v out.length (entV out) ∧ True
  chg : ∃ u, Boxed W (q + 1) 25 u ∧ W.ownsRow w.heap.size 9 1 u ch.length (strV ch) ∧ True
  au : Boxed W w.heap.size 3 (.int .i64 a)
  r6 : Boxed W (w.heap.size + 1) 22 (.slice none 0 0)
  r7 : Boxed W (w.heap.size + 1 + 1) 25 (.slice none 0 0)
  r8 : Boxed W (w.heap.size + 1 + 1 + 1) 26 (.int .i64 0)
  low : Below w.heap.size w W
theorem ScS.grown {w : World} {a : Int} {q : Nat} {out : List Ent} {ch : List ByteArray} {W W' : World} {row : Option Nat} (h : ScS w a q out ch W) (hg : W.grownBy W' row) (hr : ∀ r, row = some r → w.heap.size ≤ r ∧ ∃ o : Obj, W.heap[r]? = some o ∧ o.isCells = false) : ScS w a q out ch W' := by
  have hr' : ∀ r, row = some r → ∃ o : Obj, W.heap[r]? = some o ∧ o.isCells = false := fun r e => (hr r e).2
  exact ⟨holdsRow_own (β := Unit) _ _ _ _ 5 (fun _ => out.length) (fun _ => entV out) (fun _ _ => True) () W W' row h.sc hg hr', holdsRow_own (β := Unit) _ _ _ _ 1 (fun _ => ch.length) (fun _ => strV ch) (fun _ _ => True) () W W' row h.chg hg hr',
    boxed_kept h.au hg hr', boxed_kept h.r6 hg hr', boxed_kept h.r7 hg hr', boxed_kept h.r8 hg hr', ownFrom_below (β := Unit) (Nat.le_refl _) (Nat.le_refl _) () W W' row h.low hg hr⟩
theorem ScS.below {w : World} {a : Int} {q : Nat} {out : List Ent} {ch : List ByteArray} {W W' : World} (h : ScS w a q out ch W) (hb : Below W.heap.size W W') : ScS w a q out ch W' := h.grown (row := none) (grown_below hb) (by simp)
/-- A store into a block that is none of these. -/
theorem ScS.store {w : World} {a : Int} {q : Nat} {out : List Ent} {ch : List ByteArray} {W : World} (h : ScS w a q out ch W) {B : Nat} (hB : q + 1 < B) (hq : w.heap.size + 3 < q) {v : Value} (hv : Boxed W q 22 v) (hne : some B ≠ v.ownBlock) {cs : List Value} (hb : Blk W B cs 34) (i : Nat) (x : Value) : ScS w a q out ch (W.setCell ⟨B, i, none⟩ x) := by
  have hg := grown_set (w := W) (g := B) i x
  obtain ⟨v', hv', hrow, -⟩ := h.sc
  obtain ⟨u, hu, hrow2, -⟩ := h.chg
  obtain rfl : v = v' := by have := hv'.cell; rw [hv.cell] at this; injection this
  have hne2 : some B ≠ u.ownBlock := by
    intro e
    rcases hrow2.2 with ⟨rfl, -⟩ | ⟨g, cap, cur, rfl, -, hh, -⟩
    · cases e
    · injection e with e
      obtain rfl : B = g := e
      unfold Blk at hb
      rw [hb] at hh
      injection hh with hh
      injection hh with _ hh
      exact absurd hh (by decide)
  have k : ∀ {t : TypeId} {y : Value} {C : Nat}, C ≠ B → Boxed W C t y → Boxed (W.setCell ⟨B, i, none⟩ x) C t y := fun hC hb => hb.kept hg (fun e => hC (by injection e))
  exact ⟨⟨v, k (by omega) hv, hrow.kept hg (.inr (Ne.symm hne)), trivial⟩, ⟨u, k (by omega) hu, hrow2.kept hg (.inr (Ne.symm hne2)), trivial⟩, k (by omega) h.au, k (by omega) h.r6, k (by omega) h.r7, k (by omega) h.r8,
    h.low.setCell (p := ⟨B, i, none⟩) (by show w.heap.size ≤ B; omega) x⟩
theorem own_slice {W : World} {base : Nat} {e : TypeId} {sz : Nat} {v : Value} {k : Nat} {xs : List Value} (h : W.ownsRow base e sz v k xs) : ∃ A c, v = .slice A k c := by
  rcases h.2 with ⟨rfl, rfl⟩ | ⟨g, cap, cur, rfl, -⟩
  · exact ⟨none, 0, rfl⟩
  · exact ⟨_, cap, rfl⟩
/-- Rows of unlike elements lie apart. -/
theorem rows_apart {W : World} {b1 b2 : Nat} {e1 e2 : TypeId} {s1 s2 : Nat} {v1 v2 : Value} {k1 k2 : Nat} {xs1 xs2 : List Value} (h : W.ownsRow b1 e1 s1 v1 k1 xs1) (k : W.ownsRow b2 e2 s2 v2 k2 xs2) (hne : e1 ≠ e2) : v1.ownBlock = none ∨ v1.ownBlock ≠ v2.ownBlock := by
  rcases h.2 with ⟨rfl, -⟩ | ⟨g, cap, cur, rfl, -, hh, -⟩
  · exact .inl rfl
  · right
    intro e
    rcases k.2 with ⟨rfl, -⟩ | ⟨g', cap', cur', rfl, -, hh', -⟩
    · cases e
    · injection e with e
      obtain rfl : g = g' := e
      rw [hh] at hh'
      injection hh' with hh'
      injection hh' with _ hh'
      exact hne hh'
theorem boxed_one {W : World} {B : Nat} {t : TypeId} {v v' : Value} (h : Boxed W B t v) (k : Boxed W B t v') : v = v' := by have := k.cell; rw [h.cell] at this; injection this
theorem blk_row {W : World} {base : Nat} {e : TypeId} {sz : Nat} {v : Value} {k : Nat} {xs cs : List Value} {B : Nat} {t : TypeId} (h : W.ownsRow base e sz v k xs) (hB : Blk W B cs t) (hne : t ≠ e) : some B ≠ v.ownBlock := by
  intro e'
  rcases h.2 with ⟨rfl, -⟩ | ⟨g, cap, cur, rfl, -, hh, -⟩
  · cases e'
  · injection e' with e'
    obtain rfl : B = g := e'
    unfold Blk at hB
    rw [hB] at hh
    injection hh with hh
    injection hh with _ hh
    exact hne hh
/-- One more was scanned. -/
theorem ScS.app {w : World} {a : Int} {q : Nat} {out : List Ent} {ch : List ByteArray} {W : World} (h : ScS w a q out ch W) (hq : w.heap.size + 3 < q) (hk : out.length ≤ 1000000) {v : Value} (hv : Boxed W q 22 v) (z : Ent) :
    ∃ A' c' w3, Hid ((Builtin.append_ #[22, 22] 22 #[v, .slice (some ⟨W.heap.size, 0, none⟩) 1 1]).run Tryz.prog (W.alloc (.cells #[.string z.path, .bool z.has, .string z.data, .int .i64 z.l, .int .i64 z.r] 34)) = .ok (.slice A' (out.length + 1) c') w3) ∧
      w3.cell? ⟨q, 0, none⟩ = some v ∧ w3.frozen? ⟨q, 0, none⟩ = false ∧ ScS w a q (out ++ [z]) ch (w3.setCell ⟨q, 0, none⟩ (.slice A' (out.length + 1) c')) ∧ KeepsOthers W (w3.setCell ⟨q, 0, none⟩ (.slice A' (out.length + 1) c')) ∧ Below w.heap.size W (w3.setCell ⟨q, 0, none⟩ (.slice A' (out.length + 1) c')) ∧
      (∀ B cs t, Blk W B cs t → some B ≠ v.ownBlock → Blk w3 B cs t) := by
  obtain ⟨v', hv', hrow, -⟩ := h.sc
  obtain rfl := boxed_one hv hv'
  obtain ⟨u, hu, hrow2, -⟩ := h.chg
  obtain ⟨A', c', w3, hrun, c1, c2, c3, c4, c5, c6, hg⟩ := app_gen (n₀ := w.heap.size) Tryz.underlying22 Tryz.infoE rfl (by decide) (by decide) hv hrow h.low.size (by omega) (by omega) (by unfold maxLen; omega) (eV z) rfl (by intro u hu; exact entV_one [z] u (by simpa [entV] using hu))
  have kb : ∀ B cs t, Blk W B cs t → some B ≠ v.ownBlock → Blk w3 B cs t := fun B cs t hb hne => (hg.block B (by have := hb.lt; simp; omega) hne).trans (Blk.below hb ((Below.refl _ _).alloc (Nat.le_refl _) _))
  have kx : ∀ {t : TypeId} {y : Value} {C : Nat}, t ≠ 34 → C ≠ q → Boxed W C t y → Boxed (w3.setCell ⟨q, 0, none⟩ (.slice A' (out.length + 1) c')) C t y := fun ht hC hb =>
    Boxed.kept (show Boxed w3 _ _ _ from kb _ [_] _ hb (hb.not_row ht hrow)) (grownBy_setCell' _ _ _) (fun e => hC (by injection e))
  refine ⟨A', c', w3, hrun, c1, c2, ⟨⟨_, c3, ?_, trivial⟩, ⟨u, kx (by decide) (by omega) hu, ?_, trivial⟩, kx (by decide) (by omega) h.au, kx (by decide) (by omega) h.r6, kx (by decide) (by omega) h.r7, kx (by decide) (by omega) h.r8, h.low.trans c6⟩, c5, c6, kb⟩
  · simpa [entV] using c4
  · have r1 := (hrow2.alloc (.cells (eV z).toArray 34)).kept hg ((rows_apart hrow2 hrow (by decide)).imp id id)
    exact r1.kept (grownBy_setCell' _ _ _) (.inr (Ne.symm (Boxed.not_row (show Boxed w3 q 22 v from kb q [v] _ hv (hv.not_row (by decide) hrow)) (by decide) r1)))
/-- One more changed. -/
theorem ScS.appS {w : World} {a : Int} {q : Nat} {out : List Ent} {ch : List ByteArray} {W : World} (h : ScS w a q out ch W) (hq : w.heap.size + 3 < q) (hk : ch.length ≤ 1000000) {u : Value} (hu : Boxed W (q + 1) 25 u) (z : ByteArray) :
    ∃ A' c' w3, Hid ((Builtin.append_ #[25, 25] 25 #[u, .slice (some ⟨W.heap.size, 0, none⟩) 1 1]).run Tryz.prog (W.alloc (.cells #[.string z] 9)) = .ok (.slice A' (ch.length + 1) c') w3) ∧
      w3.cell? ⟨q + 1, 0, none⟩ = some u ∧ w3.frozen? ⟨q + 1, 0, none⟩ = false ∧ ScS w a q out (ch ++ [z]) (w3.setCell ⟨q + 1, 0, none⟩ (.slice A' (ch.length + 1) c')) ∧ KeepsOthers W (w3.setCell ⟨q + 1, 0, none⟩ (.slice A' (ch.length + 1) c')) ∧ Below w.heap.size W (w3.setCell ⟨q + 1, 0, none⟩ (.slice A' (ch.length + 1) c')) ∧
      (∀ B cs t, t ≠ 9 → Blk W B cs t → Blk w3 B cs t) := by
  obtain ⟨u', hu', hrow, -⟩ := h.chg
  obtain rfl := boxed_one hu hu'
  obtain ⟨v, hv, hrow2, -⟩ := h.sc
  obtain ⟨A', c', w3, hrun, c1, c2, c3, c4, c5, c6, hg⟩ := app_gen (n₀ := w.heap.size) Tryz.underlying25 Tryz.infoS rfl (by decide) (by decide) hu hrow h.low.size (by omega) (by omega) (by unfold maxLen; omega) [.string z] rfl (by simp [Value.oneCell'])
  have kb : ∀ B cs t, t ≠ 9 → Blk W B cs t → Blk w3 B cs t := fun B cs t ht hb => (hg.block B (by have := hb.lt; simp; omega) (blk_row hrow hb ht)).trans (Blk.below hb ((Below.refl _ _).alloc (Nat.le_refl _) _))
  have kx : ∀ {t : TypeId} {y : Value} {C : Nat}, t ≠ 9 → C ≠ q + 1 → Boxed W C t y → Boxed (w3.setCell ⟨q + 1, 0, none⟩ (.slice A' (ch.length + 1) c')) C t y := fun ht hC hb =>
    Boxed.kept (show Boxed w3 _ _ _ from kb _ [_] _ ht hb) (grownBy_setCell' _ _ _) (fun e => hC (by injection e))
  refine ⟨A', c', w3, hrun, c1, c2, ⟨⟨v, kx (by decide) (by omega) hv, ?_, trivial⟩, ⟨_, c3, ?_, trivial⟩, kx (by decide) (by omega) h.au, kx (by decide) (by omega) h.r6, kx (by decide) (by omega) h.r7, kx (by decide) (by omega) h.r8, h.low.trans c6⟩, c5, c6, kb⟩
  · have r1 := (hrow2.alloc (.cells [Value.string z].toArray 9)).kept hg ((rows_apart hrow2 hrow (by decide)).imp id id)
    exact r1.kept (grownBy_setCell' _ _ _) (.inr (Ne.symm (Boxed.not_row (show Boxed w3 (q + 1) 25 u from kb (q + 1) [u] _ (by decide) hu) (by decide) r1)))
  · simpa [strV] using c4
/-- Three results in their cells. -/
theorem res3 {W : World} {b : Nat} {t6 t7 t8 : TypeId} {a6 a7 a8 : Value} (q6 : Boxed W (b + 1) t6 a6) (q7 : Boxed W (b + 1 + 1) t7 a7) (q8 : Boxed W (b + 1 + 1 + 1) t8 a8) (x y z : Value) :
    Boxed (((W.setCell ⟨b + 1, 0, none⟩ x).setCell ⟨b + 1 + 1, 0, none⟩ y).setCell ⟨b + 1 + 1 + 1, 0, none⟩ z) (b + 1) t6 x ∧ Boxed (((W.setCell ⟨b + 1, 0, none⟩ x).setCell ⟨b + 1 + 1, 0, none⟩ y).setCell ⟨b + 1 + 1 + 1, 0, none⟩ z) (b + 1 + 1) t7 y ∧ Boxed (((W.setCell ⟨b + 1, 0, none⟩ x).setCell ⟨b + 1 + 1, 0, none⟩ y).setCell ⟨b + 1 + 1 + 1, 0, none⟩ z) (b + 1 + 1 + 1) t8 z := by
  have k : ∀ {W : World} {B C : Nat} {t : TypeId} {v u : Value}, C ≠ B → Boxed W C t v → Boxed (W.setCell ⟨B, 0, none⟩ u) C t v := fun hC hb => hb.kept (grownBy_setCell' _ _ _) (fun e => hC (by injection e))
  exact ⟨k (by omega) (k (by omega) (q6.set x)), k (by omega) ((k (by omega) q7).set y), (k (by omega) (k (by omega) q8)).set z⟩
theorem res3_row {W : World} {b : Nat} {t6 t7 t8 : TypeId} {a6 a7 a8 : Value} (q6 : Boxed W (b + 1) t6 a6) (q7 : Boxed W (b + 1 + 1) t7 a7) (q8 : Boxed W (b + 1 + 1 + 1) t8 a8) (x y z : Value) {base : Nat} {e : TypeId} {sz k : Nat} {v : Value} {xs : List Value} (h : W.ownsRow base e sz v k xs) (h6 : t6 ≠ e) (h7 : t7 ≠ e) (h8 : t8 ≠ e) :
    (((W.setCell ⟨b + 1, 0, none⟩ x).setCell ⟨b + 1 + 1, 0, none⟩ y).setCell ⟨b + 1 + 1 + 1, 0, none⟩ z).ownsRow base e sz v k xs := by
  have kk : ∀ {W : World} {B C : Nat} {t : TypeId} {v u : Value}, C ≠ B → Boxed W C t v → Boxed (W.setCell ⟨B, 0, none⟩ u) C t v := fun hC hb => hb.kept (grownBy_setCell' _ _ _) (fun e => hC (by injection e))
  have r1 := h.kept (grownBy_setCell' W (b + 1) x) (.inr (Ne.symm (q6.not_row h6 h)))
  have r2 := r1.kept (grownBy_setCell' _ (b + 1 + 1) y) (.inr (Ne.symm (Boxed.not_row (kk (by omega) q7) h7 r1)))
  exact r2.kept (grownBy_setCell' _ (b + 1 + 1 + 1) z) (.inr (Ne.symm (Boxed.not_row (kk (by omega) (kk (by omega) q8)) h8 r2)))
end Go.Proofs.YtlmccjdpmhancaaGreatDoor
namespace Go.Proofs.YtlmccjdpmhancaaGreatDoor
open Go.RowKit Go.Shelf

attribute [local go_sem] Oper.semAt_some

/-- What Scan answers. -/
def ScanPost (w : World) (es : List Ent) (fs : List Fil) (a : Int) (e : Ending) (w' : World) : Prop :=
  ∃ A' c' B' d', e = .returned (.tuple #[.slice A' (scanA es fs a).length c', .slice B' (scanC es fs a).length d', .int .i64 (scanN es fs a : Nat)]) ∧
    w'.ownsRow w.heap.size 34 5 (.slice A' (scanA es fs a).length c') (scanA es fs a).length (entV (scanA es fs a)) ∧
    w'.ownsRow w.heap.size 9 1 (.slice B' (scanC es fs a).length d') (scanC es fs a).length (strV (scanC es fs a)) ∧ Below w.heap.size w w'
theorem scan_err {w w' : World} {es : List Ent} {fs : List Fil} {a : Int} (k : Nat) (hk : scanN es fs a = k) (h0 : k ≠ 0) (hb : Below w.heap.size w w') : ScanPost w es fs a (.returned (.tuple #[.slice none 0 0, .slice none 0 0, .int .i64 (k : Nat)])) w' := by
  have e1 : scanA es fs a = [] := by unfold scanA; rw [hk, if_neg h0]
  have e2 : scanC es fs a = [] := by unfold scanC; rw [hk, if_neg h0]
  refine ⟨none, 0, none, 0, ?_, ?_, ?_, hb⟩
  · rw [e1, e2, hk]; rfl
  · rw [e1]; exact World.ownsRow_nil _ _ _ _
  · rw [e2]; exact World.ownsRow_nil _ _ _ _

set_option maxRecDepth 100000 in
set_option maxHeartbeats 4000000 in
theorem scan_bad {w : World} {A B : Option Addr} {n c m d : Nat} {es : List Ent} {fs : List Fil} (h : Et w A n c es) (k : Ft w B m d fs) (a : Int) (hbad : (archR es && treeR fs) = false) :
    Calls Tryz.prog 23 #[.slice A n c, .slice B m d, .int .i64 a] w (ScanPost w es fs a) := by
  have HN := hid (scanN_arg (a := a) hbad)
  have b0 : Below w.heap.size w ((((w.alloc (.cells #[.int .i64 a] 3)).alloc (.cells #[.slice none 0 0] 22)).alloc (.cells #[.slice none 0 0] 25)).alloc (.cells #[.int .i64 0] 26)) := ((((Below.refl _ _).alloc (Nat.le_refl _) _).alloc (by simp) _).alloc (by simp; omega) _).alloc (by simp; omega) _
  have p6 := ((Boxed.new (w.alloc (.cells #[.int .i64 a] 3)) 22 (.slice none 0 0)).alloc (.cells #[.slice none 0 0] 25)).alloc (.cells #[.int .i64 0] 26)
  have p7 := (Boxed.new ((w.alloc (.cells #[.int .i64 a] 3)).alloc (.cells #[.slice none 0 0] 22)) 25 (.slice none 0 0)).alloc (.cells #[.int .i64 0] 26)
  have p8 := Boxed.new (((w.alloc (.cells #[.int .i64 a] 3)).alloc (.cells #[.slice none 0 0] 22)).alloc (.cells #[.slice none 0 0] 25)) 26 (.int .i64 0)
  simp only [World.size_alloc] at p6 p7 p8
  have h1 := h.below b0
  have k1 := k.below b0
  clear h k
  go_enter Tryz.func23, Tryz.ntmps23
  go_upto_region 1 with (fail)
  generalize (((w.alloc (.cells #[.int .i64 a] 3)).alloc (.cells #[.slice none 0 0] 22)).alloc (.cells #[.slice none 0 0] 25)).alloc (.cells #[.int .i64 0] 26) = W0 at *
  have c0 := archR_any h1
  cases hR : archR es with
  | false =>
    rw [hR] at c0
    clear hR hbad
    go_wp2_with fail
    refine c0.mono ?_
    rintro e w1 ⟨rfl, hb1⟩
    have b1 := below2 b0 hb1
    have q6 := boxed_below p6 hb1
    have q7 := boxed_below p7 hb1
    have q8 := boxed_below p8 hb1
    clear c0 hb1 b0 p6 p7 p8
    have d6 := q6.cell
    have d7 := q7.cell
    have d8 := q8.cell
    have z6 := q6.frozen
    have z7 := q7.frozen
    have z8 := q8.frozen
    obtain ⟨e6, e7, e8⟩ := res3 q6 q7 q8 (.slice none 0 0) (.slice none 0 0) (.int .i64 1)
    have e6 := e6.cell
    have e7 := e7.cell
    have e8 := e8.cell
    have bz : Below w.heap.size w (((w1.setCell ⟨w.heap.size + 1, 0, none⟩ (.slice none 0 0)).setCell ⟨w.heap.size + 1 + 1, 0, none⟩ (.slice none 0 0)).setCell ⟨w.heap.size + 1 + 1 + 1, 0, none⟩ (.int .i64 1)) := ((b1.setCell (p := ⟨w.heap.size + 1, 0, none⟩) (by show _ ≤ w.heap.size + 1; omega) _).setCell (p := ⟨w.heap.size + 1 + 1, 0, none⟩) (by show _ ≤ w.heap.size + 1 + 1; omega) _).setCell (p := ⟨w.heap.size + 1 + 1 + 1, 0, none⟩) (by show _ ≤ w.heap.size + 1 + 1 + 1; omega) _
    go_wp2
    refine bodyPost_ret (v := .tuple #[.slice none 0 0, .slice none 0 0, .int .i64 1]) (by simp [results, Tryz.results23, go_sem, e6, e7, e8]) rfl (scan_err 1 HN.out (by decide) bz)
  | true =>
    rw [hR] at c0
    have hT : treeR fs = false := by rw [hR, Bool.true_and] at hbad; exact hbad
    clear hR hbad
    go_wp2_with fail
    refine c0.mono ?_
    rintro e w0 ⟨rfl, hb0⟩
    have c1 := tree_any (k1.below hb0)
    rw [hT] at c1
    clear c0 hT
    go_wp2_with fail
    refine c1.mono ?_
    rintro e w1 ⟨rfl, hb2⟩
    have hb1 := below2 hb0 hb2
    have b1 := below2 b0 hb1
    have q6 := boxed_below p6 hb1
    have q7 := boxed_below p7 hb1
    have q8 := boxed_below p8 hb1
    clear c1 hb1 b0 p6 p7 p8 hb0 hb2
    have d6 := q6.cell
    have d7 := q7.cell
    have d8 := q8.cell
    have z6 := q6.frozen
    have z7 := q7.frozen
    have z8 := q8.frozen
    obtain ⟨e6, e7, e8⟩ := res3 q6 q7 q8 (.slice none 0 0) (.slice none 0 0) (.int .i64 1)
    have e6 := e6.cell
    have e7 := e7.cell
    have e8 := e8.cell
    have bz : Below w.heap.size w (((w1.setCell ⟨w.heap.size + 1, 0, none⟩ (.slice none 0 0)).setCell ⟨w.heap.size + 1 + 1, 0, none⟩ (.slice none 0 0)).setCell ⟨w.heap.size + 1 + 1 + 1, 0, none⟩ (.int .i64 1)) := ((b1.setCell (p := ⟨w.heap.size + 1, 0, none⟩) (by show _ ≤ w.heap.size + 1; omega) _).setCell (p := ⟨w.heap.size + 1 + 1, 0, none⟩) (by show _ ≤ w.heap.size + 1 + 1; omega) _).setCell (p := ⟨w.heap.size + 1 + 1 + 1, 0, none⟩) (by show _ ≤ w.heap.size + 1 + 1 + 1; omega) _
    go_wp2
    refine bodyPost_ret (v := .tuple #[.slice none 0 0, .slice none 0 0, .int .i64 1]) (by simp [results, Tryz.results23, go_sem, e6, e7, e8]) rfl (scan_err 1 HN.out (by decide) bz)
end Go.Proofs.YtlmccjdpmhancaaGreatDoor
