/- Contracts: the interleaved pair, as the reference has it. Written by tools/genp7.py. -/
import Derived.Test.YtdpcehlakhahiaaDoorP6
namespace Go.Proofs.YtdpcehlakhahiaaDoor
open Go.RowKit
set_option maxRecDepth 100000


/-- What holds while an interleaved pair is made: box q holds Va, Vb; rows Ra, Rb are the call's own, apart. -/
structure PI (w W : World) (p r q : Nat) (F : List Value) (Va Vb Ra Rb : Value) (n m : Nat) (la lb : List Value) : Prop where
  bel : Below w.heap.size w W
  pq : w.heap.size ≤ p ∧ p < q ∧ r < q
  fr : Blk W p 24 F
  re : Blk W r 24 [.slice none 0 0, .slice none 0 0]
  ou : Blk W q 24 [Va, Vb]
  va : W.ownsRow (q + 1) 3 1 Ra n la
  vb : W.ownsRow (q + 1) 3 1 Rb m lb
  ne : ∀ g, Ra.ownBlock = some g → Rb.ownBlock ≠ some g

section
variable {w W W' : World} {p r q : Nat} {F : List Value} {Va Vb Ra Rb R' : Value} {n m n' : Nat} {la lb l' : List Value}
theorem PI.below (h : PI w W p r q F Va Vb Ra Rb n m la lb) (hb : Below W.heap.size W W') : PI w W' p r q F Va Vb Ra Rb n m la lb :=
  ⟨tr h.bel hb h.bel.size, h.pq, h.fr.bel hb, h.re.bel hb, h.ou.bel hb, ownsRow_bel h.va hb, ownsRow_bel h.vb hb, h.ne⟩
theorem PI.alloc (h : PI w W p r q F Va Vb Ra Rb n m la lb) (o : Obj) : PI w (W.alloc o) p r q F Va Vb Ra Rb n m la lb := h.below (alloc_bel _ _)
theorem blk_kept' {g : Nat} {e : TypeId} {cs : List Value} {row : Option Nat} (h : Blk W g e cs) (hg : W.grownBy W' row) (hne : some g ≠ row) : Blk W' g e cs := (hg.block g h.lt hne).trans h
theorem PI.appA (h : PI w W p r q F Va Vb Ra Rb n m la lb) (ho : W'.ownsRow (q + 1) 3 1 R' n' l') (hg : W.grownBy W' Ra.ownBlock) (hat : ∀ k, R'.ownBlock = some k → Ra.ownBlock = some k ∨ W.heap.size ≤ k) : PI w W' p r q F Va Vb R' Rb n' m l' lb := by
  obtain ⟨h1, h2, h3⟩ := h.pq
  have hr : ∀ k, Ra.ownBlock = some k → q + 1 ≤ k := fun k hk => (h.va.lt k hk).1
  have ne : ∀ b, b ≤ q → some b ≠ Ra.ownBlock := fun b hb e => by have := hr b e.symm; omega
  refine ⟨h.bel.grown hg h.bel.size (fun k hk => by have := hr k hk; omega), h.pq, blk_kept' h.fr hg (ne _ (by omega)), blk_kept' h.re hg (ne _ (by omega)), blk_kept' h.ou hg (ne _ (by omega)), ho, h.vb.kept hg ?_, fun k hk => ?_⟩
  · cases hb : Rb.ownBlock with
    | none => exact .inl rfl
    | some b => exact .inr fun e => h.ne b e.symm hb
  · rcases hat k hk with e | e
    · exact h.ne k e
    · intro hb
      have := (h.vb.lt k hb).2
      omega
theorem PI.appB (h : PI w W p r q F Va Vb Ra Rb n m la lb) (ho : W'.ownsRow (q + 1) 3 1 R' n' l') (hg : W.grownBy W' Rb.ownBlock) (hat : ∀ k, R'.ownBlock = some k → Rb.ownBlock = some k ∨ W.heap.size ≤ k) : PI w W' p r q F Va Vb Ra R' n n' la l' := by
  obtain ⟨h1, h2, h3⟩ := h.pq
  have hr : ∀ k, Rb.ownBlock = some k → q + 1 ≤ k := fun k hk => (h.vb.lt k hk).1
  have ne : ∀ b, b ≤ q → some b ≠ Rb.ownBlock := fun b hb e => by have := hr b e.symm; omega
  refine ⟨h.bel.grown hg h.bel.size (fun k hk => by have := hr k hk; omega), h.pq, blk_kept' h.fr hg (ne _ (by omega)), blk_kept' h.re hg (ne _ (by omega)), blk_kept' h.ou hg (ne _ (by omega)), h.va.kept hg ?_, ho, fun k hk hb => ?_⟩
  · cases ha : Ra.ownBlock with
    | none => exact .inl rfl
    | some b => exact .inr fun e => h.ne b ha e.symm
  · rcases hat k hb with e | e
    · exact h.ne k hk e
    · have := (h.va.lt k hk).2
      omega
theorem PI.set (h : PI w W p r q F Va Vb Ra Rb n m la lb) (i : Nat) (u : Value) {Va' Vb' : Value} (hi : [Va, Vb].set i u = [Va', Vb']) : PI w (W.setCell ⟨q, i, none⟩ u) p r q F Va' Vb' Ra Rb n m la lb := by
  obtain ⟨h1, h2, h3⟩ := h.pq
  have k1 : W.grownBy (W.setCell ⟨q, i, none⟩ u) (some q) := ⟨rfl, rfl, rfl, by simp [World.setCell], fun b _ hne => Below.heap_setCell W ⟨q, i, none⟩ u b (fun e => hne (by rw [e]))⟩
  have nA : Ra.ownBlock ≠ some q := fun e => by have := (h.va.lt q e).1; omega
  have nB : Rb.ownBlock ≠ some q := fun e => by have := (h.vb.lt q e).1; omega
  refine ⟨h.bel.setCell (p := ⟨q, i, none⟩) (by show w.heap.size ≤ q; omega) _, h.pq, h.fr.far (p := ⟨q, i, none⟩) (by show p ≠ q; omega) _, h.re.far (p := ⟨q, i, none⟩) (by show r ≠ q; omega) _, ?_, h.va.kept k1 (.inr nA), h.vb.kept k1 (.inr nB), h.ne⟩
  have := h.ou.set_ i u
  rwa [hi] at this
end

set_option maxHeartbeats 4000000 in
theorem refInterleaved_c (a b : List Int) (A B : Option Addr) (c d : Nat) (w : World) (hr : Rd w A (ints a)) (hs : Rd w B (ints b)) (hl : a.length ≤ 1000) (hab : a.length = b.length) (hsm : Small b) :
    Calls Tryd.prog 18 #[.agg #[.slice A a.length c, .slice B b.length d]] w fun r w' => (∃ (U V : Option Addr) (cu cv : Nat), r = .returned (.agg #[.slice U (2 * a.length) cu, .slice V (2 * a.length) cv]) ∧ RdT w' 3 U (ints (turnsTo a b a.length)) ∧ RdT w' 3 V (ints (turnsTo a (negL b) a.length))) ∧ Below w.heap.size w w' := by
  obtain ⟨i0, hi, hz0, hz1, hz2⟩ := info_parts Tryd.info3
  have HAB := hide hab
  have HSM := hide hsm
  clear hab hsm
  go_enter Tryd.func18, Tryd.ntmps18
  go_wp2
  obtain ⟨W0, hW0⟩ : ∃ V, ((w.alloc (.cells #[.slice A a.length c, .slice B b.length d] 24)).alloc (.cells #[.slice none 0 0, .slice none 0 0] 24)).alloc (.cells #[.slice none 0 0, .slice none 0 0] 24) = V := ⟨_, rfl⟩
  have hP : PI w W0 w.heap.size (w.heap.size + 1) (w.heap.size + 1 + 1) [.slice A a.length c, .slice B b.length d] (.slice none 0 0) (.slice none 0 0) (.slice none 0 0) (.slice none 0 0) 0 0 [] [] := by
    rw [← hW0]
    refine ⟨((alloc_bel _ _).alloc (by simp) _).alloc (by simp; omega) _, by omega, ((Blk.new w 24 [.slice A a.length c, .slice B b.length d]).bel (alloc_bel _ _)).bel (alloc_bel _ _), (Blk.two w 24 24 [.slice A a.length c, .slice B b.length d] [.slice none 0 0, .slice none 0 0]).bel (alloc_bel _ _), ?_, World.ownsRow_nil _ _ _ _, World.ownsRow_nil _ _ _ _, fun g hg => by simp [Value.ownBlock] at hg⟩
    have := Blk.two (w.alloc (.cells #[.slice A a.length c, .slice B b.length d] 24)) 24 24 [.slice none 0 0, .slice none 0 0] [.slice none 0 0, .slice none 0 0]
    rwa [show (w.alloc (.cells #[.slice A a.length c, .slice B b.length d] 24)).heap.size = w.heap.size + 1 from World.size_alloc _ _] at this
  rw [hW0]
  clear hW0
  obtain ⟨r, hr1⟩ : ∃ r, w.heap.size + 1 = r := ⟨_, rfl⟩
  obtain ⟨q, hq1⟩ : ∃ q, r + 1 = q := ⟨_, rfl⟩
  rw [hr1] at hP ⊢
  rw [hq1] at hP ⊢
  have HRP : Hid (w.heap.size ≤ r) := by show _ ≤ _; omega
  clear hr1 hq1
  go_loopw [4] (fun t wr => ∃ (k : Nat) (Va Vb : Value), k ≤ a.length ∧ t = .int .i64 k ∧ PI w wr w.heap.size r q [.slice A a.length c, .slice B b.length d] Va Vb Va Vb (2 * k) (2 * k) (ints (turnsTo a b k)) (ints (turnsTo a (negL b) k))) (fun t _ => a.length - (intOf t).toNat)
  case atStart => exact ⟨0, _, _, Nat.zero_le _, rfl, hP⟩
  case round =>
    clear hP
    obtain ⟨k, Va, Vb, hk, rfl, hP⟩ := hrel
    have hF0 := hP.fr
    have c0 := hF0.cell 0; have c1 := hF0.cell 1; simp only [List.getElem?_cons_zero, List.getElem?_cons_succ] at c0 c1
    clear hF0
    by_cases hlt : k < a.length
    · have hkb : k < b.length := by have := HAB.out; omega
      obtain ⟨bA, oA, rfl, hbA, z0⟩ := hr.int_at hlt
      obtain ⟨bB, oB, rfl, hbB, z1⟩ := hs.int_at hkb
      have hgb : b.getD k 0 = b[k] := by simp [List.getD, hkb]
      have hga : a.getD k 0 = a[k] := by simp [List.getD, hlt]
      have HT : Hid (ints (turnsTo a b (k + 1)) = ints (turnsTo a b k) ++ [.int .i64 a[k], .int .i64 b[k]]) := by
        show _ = _
        rw [turnsTo_succ, ints_append, hga, hgb]; rfl
      have HU : Hid (ints (turnsTo a (negL b) (k + 1)) = ints (turnsTo a (negL b) k) ++ [.int .i64 a[k], .int .i64 (-b[k])]) := by
        show _ = _
        rw [turnsTo_succ, ints_append, negL_getD, hga, hgb]; rfl
      have hbd := HSM.out _ (List.getElem_mem hkb)
      clear hga hgb
      generalize a[k] = x at z0 HT HU
      generalize b[k] = y at z1 HT HU hbd
      have HS : Hid (∀ w' (i : Nat) {V : Value}, Below w.heap.size w w' → Blk w' w.heap.size 24 [.slice (some ⟨bA, oA, none⟩) a.length c, .slice (some ⟨bB, oB, none⟩) b.length d] → w'.cell? ⟨q, i, none⟩ = some V → w'.cell? ⟨q, i, none⟩ = some V ∧ w'.cell? ⟨w.heap.size, 0, none⟩ = some (.slice (some ⟨bA, oA, none⟩) a.length c) ∧ w'.cell? ⟨w.heap.size, 1, none⟩ = some (.slice (some ⟨bB, oB, none⟩) b.length d) ∧ w'.cell? ⟨bA, oA + k, none⟩ = some (.int .i64 x) ∧ w'.cell? ⟨bB, oB + k, none⟩ = some (.int .i64 y)) :=
        fun w' i V hb hf hc => ⟨hc, hf.cell 0, hf.cell 1, (hb.cell (p := ⟨bA, _, none⟩) hbA).trans z0, (hb.cell (p := ⟨bB, _, none⟩) hbB).trans z1⟩
      have ix0 : (0 : Int) ≤ (k : Int) := by omega
      have ix1 : (k : Int) < (a.length : Int) := by omega
      have ix2 : (k : Int) < (b.length : Int) := by omega
      have wn : IntKind.i64.wrap (-y) = -y := by obtain ⟨e1, e2⟩ := hbd; simp (disch := omega) only [IntWalk.i64_in]
      go_upto_region 5 with fail
      clear z0 z1 c0 c1
      refine wp_region_M (fun w' => w'.cell? ⟨q, 0, none⟩ = some Va ∧ w'.cell? ⟨w.heap.size, 0, none⟩ = some (.slice (some ⟨bA, oA, none⟩) a.length c) ∧ w'.cell? ⟨w.heap.size, 1, none⟩ = some (.slice (some ⟨bB, oB, none⟩) b.length d) ∧ w'.cell? ⟨bA, oA + k, none⟩ = some (.int .i64 x) ∧ w'.cell? ⟨bB, oB + k, none⟩ = some (.int .i64 y)) 15 (by kernel_rfl) ?_
      have hP0 := hP.below ((Below.refl _ _).drew)
      have hSd := HS.out _ 0 hP0.bel hP0.fr (hP0.ou.cell 0)
      refine AnyM.take (i := 0) (v := ?_) rfl (by kernel_rfl) (by kernel_rfl) (by kernel_rfl) (by kernel_rfl) (fun _ _ _ h => h) (Or.inl ⟨by rfl, ?_⟩) (by assumption) ?_
      rotate_left 1
      · (intro w hSw; (try dsimp only at hSw); go_simp <;> with_reducible rfl)
      try simp only [Act.put]
      refine AnyM.take (i := 1) (v := ?_) rfl (by kernel_rfl) (by kernel_rfl) (by kernel_rfl) (by kernel_rfl) (fun _ _ _ h => h) (Or.inl ⟨by rfl, ?_⟩) (by assumption) ?_
      rotate_left 1
      · (intro w hSw; (try dsimp only at hSw); go_simp <;> with_reducible rfl)
      try simp only [Act.put]
      refine AnyM.take (i := 2) (v := ?_) rfl (by kernel_rfl) (by kernel_rfl) (by kernel_rfl) (by kernel_rfl) (fun _ _ _ h => h) (Or.inl ⟨by rfl, ?_⟩) (by assumption) ?_
      rotate_left 1
      · (intro w hSw; (try dsimp only at hSw); go_simp <;> with_reducible rfl)
      try simp only [Act.put]
      refine AnyM.take (i := 3) (v := ?_) rfl (by kernel_rfl) (by kernel_rfl) (by kernel_rfl) (by kernel_rfl) (fun _ _ _ h => h) (Or.inl ⟨by rfl, ?_⟩) (by assumption) ?_
      rotate_left 1
      · (intro w hSw; (try dsimp only at hSw); go_simp <;> with_reducible rfl)
      try simp only [Act.put]
      refine AnyM.take (i := 4) (v := ?_) rfl (by kernel_rfl) (by kernel_rfl) (by kernel_rfl) (by kernel_rfl) (fun _ _ _ h => h) (Or.inl ⟨by rfl, ?_⟩) (by assumption) ?_
      rotate_left 1
      · (intro w hSw; (try dsimp only at hSw); go_simp <;> with_reducible rfl)
      try simp only [Act.put]
      refine AnyM.take (i := 5) (v := ?_) rfl (by kernel_rfl) (by kernel_rfl) (by kernel_rfl) (by kernel_rfl) (fun _ _ _ h => h) (Or.inl ⟨by rfl, ?_⟩) (by assumption) ?_
      rotate_left 1
      · (intro w hSw; (try dsimp only at hSw); go_simp <;> with_reducible rfl)
      try simp only [Act.put]
      refine AnyM.take (i := 6) (v := ?_) rfl (by kernel_rfl) (by kernel_rfl) (by kernel_rfl) (by kernel_rfl) (fun _ _ _ h => h) (Or.inl ⟨by rfl, ?_⟩) (by assumption) ?_
      rotate_left 1
      · (intro w hSw; (try dsimp only at hSw); go_simp <;> with_reducible rfl)
      try simp only [Act.put]
      refine AnyM.take (i := 7) (v := ?_) rfl (by kernel_rfl) (by kernel_rfl) (by kernel_rfl) (by kernel_rfl) (fun _ _ _ h => h) (Or.inl ⟨by rfl, ?_⟩) (by assumption) ?_
      rotate_left 1
      · (intro w hSw; (try dsimp only at hSw); go_simp <;> with_reducible rfl)
      try simp only [Act.put]
      refine AnyM.take (i := 8) (v := ?_) rfl (by kernel_rfl) (by kernel_rfl) (by kernel_rfl) (by kernel_rfl) (fun _ _ _ h => h) (Or.inl ⟨by rfl, ?_⟩) (by assumption) ?_
      rotate_left 1
      · (intro w hSw; (try dsimp only at hSw); go_simp <;> with_reducible rfl)
      try simp only [Act.put]
      refine AnyM.take (i := 9) (v := ?_) rfl (by kernel_rfl) (by kernel_rfl) (by kernel_rfl) (by kernel_rfl) (fun _ _ _ h => h) (Or.inl ⟨by rfl, ?_⟩) (by assumption) ?_
      rotate_left 1
      · (intro w hSw; (try dsimp only at hSw); go_simp <;> with_reducible rfl)
      try simp only [Act.put]
      refine AnyM.take (i := 10) (v := ?_) rfl (by kernel_rfl) (by kernel_rfl) (by kernel_rfl) (by kernel_rfl) (fun _ _ _ h => h) (Or.inl ⟨by rfl, ?_⟩) (by assumption) ?_
      rotate_left 1
      · (intro w hSw; (try dsimp only at hSw); go_simp <;> with_reducible rfl)
      try simp only [Act.put]
      refine AnyM.take (i := 11) (v := ?_) rfl (by kernel_rfl) (by kernel_rfl) (by kernel_rfl) (by kernel_rfl) (fun _ _ _ h => h) (Or.inl ⟨by rfl, ?_⟩) (by assumption) ?_
      rotate_left 1
      · (intro w hSw; (try dsimp only at hSw); go_simp <;> with_reducible rfl)
      try simp only [Act.put]
      refine AnyM.next [12] (by kernel_rfl) (by simp) ?_
      refine NextM.cons rfl (fun K hK => ?_) NextM.nil
      go_simp
      have hP1 := (hP.alloc (.cells #[.int .i64 x, .int .i64 y] 3)).below ((Below.refl _ _).drew)
      have hN : Blk (wr.alloc (.cells #[.int .i64 x, .int .i64 y] 3)).drew wr.heap.size 3 [.int .i64 x, .int .i64 y] := Blk.new wr 3 [.int .i64 x, .int .i64 y]
      generalize (wr.alloc (.cells #[.int .i64 x, .int .i64 y] 3)).drew = WE at hP1 hN ⊢
      have hSe := HS.out _ 0 hP1.bel hP1.fr (hP1.ou.cell 0)
      try dsimp only
      refine hK.out _ _ (fun _ => hSe) ?_
      clear hK K
      try simp only [Act.put]
      refine AnyM.next [13] (by kernel_rfl) (by simp) ?_
      refine NextM.cons rfl (fun K hK => ?_) NextM.nil
      refine step_append_lies _ (by rfl) _ _ _ (by rfl) (q + 1) 3 i0 (.int .i64 0) 1 8 Tryd.underlying22 hi hz0 hz1 hz2 rfl (by decide) Va _ _ (by rfl) hP1.va ⟨_, 0, none⟩ 2 2 [.int .i64 x, .int .i64 y] (by rfl) rfl (World.news_of_block hN) (by simp [Value.oneCell']) (by decide) (by unfold maxLen; omega) (by omega) (Nat.succ_le_of_lt hP1.ou.lt) _ rfl ?_
      intro gv cv Wv hov hgv hatv hltv
      have hP2 := hP1.appA hov hgv (fun b hb => by
        have e : gv = b := by simpa [Value.ownBlock] using hb
        subst e
        rcases hatv with e | e
        · exact .inl e
        · exact .inr (by rw [e]; exact Nat.le_refl _))
      have hSv := HS.out _ 0 hP2.bel hP2.fr (hP2.ou.cell 0)
      try dsimp only
      refine hK.out _ _ (fun _ => hSv) ?_
      clear hK K
      try simp only [Act.put]
      refine AnyM.take (i := 14) (v := ?_) rfl (by kernel_rfl) (by kernel_rfl) (by kernel_rfl) (by kernel_rfl) (fun _ _ _ h => h) (Or.inl ⟨by rfl, ?_⟩) (by assumption) ?_
      rotate_left 1
      · (intro w hSw; (try dsimp only at hSw); go_simp <;> with_reducible rfl)
      try simp only [Act.put]
      refine AnyM.next [15] (by kernel_rfl) (by simp) ?_
      refine NextM.cons rfl (fun K hK => ?_) NextM.nil
      have y0 := hP2.ou.cell 0
      simp only [List.getElem?_cons_zero] at y0
      have f0 := hP2.ou.frozen 0
      go_simp
      refine hK.out _ _ (fun h => by simp at h) ?_
      clear hK K
      try simp only [Act.put]
      refine AnyM.done (by kernel_rfl) ?_ _
      rw [← HT.out] at hP2
      have hP3 := hP2.set 0 (.slice (some ⟨gv, 0, none⟩) (2 * k + 2) cv) rfl
      obtain ⟨W5, hW5⟩ : ∃ W5, Wv.setCell ⟨q, 0, none⟩ (Value.slice (some ⟨gv, 0, none⟩) (2 * k + 2) cv) = W5 := ⟨_, rfl⟩
      rw [hW5] at hP3 ⊢
      clear hW5 hP2 hP1 hP0 hP hSd hSe hSv hov hgv hatv hltv y0 f0 hN HT
      go_upto_region 6 with fail
      refine wp_region_M (fun w' => w'.cell? ⟨q, 1, none⟩ = some Vb ∧ w'.cell? ⟨w.heap.size, 0, none⟩ = some (.slice (some ⟨bA, oA, none⟩) a.length c) ∧ w'.cell? ⟨w.heap.size, 1, none⟩ = some (.slice (some ⟨bB, oB, none⟩) b.length d) ∧ w'.cell? ⟨bA, oA + k, none⟩ = some (.int .i64 x) ∧ w'.cell? ⟨bB, oB + k, none⟩ = some (.int .i64 y)) 16 (by kernel_rfl) ?_
      have hQ0 := hP3.below ((Below.refl _ _).drew)
      have hTd := HS.out _ 1 hQ0.bel hQ0.fr (hQ0.ou.cell 1)
      refine AnyM.take (i := 0) (v := ?_) rfl (by kernel_rfl) (by kernel_rfl) (by kernel_rfl) (by kernel_rfl) (fun _ _ _ h => h) (Or.inl ⟨by rfl, ?_⟩) (by assumption) ?_
      rotate_left 1
      · (intro w hSw; (try dsimp only at hSw); go_simp <;> with_reducible rfl)
      try simp only [Act.put]
      refine AnyM.take (i := 1) (v := ?_) rfl (by kernel_rfl) (by kernel_rfl) (by kernel_rfl) (by kernel_rfl) (fun _ _ _ h => h) (Or.inl ⟨by rfl, ?_⟩) (by assumption) ?_
      rotate_left 1
      · (intro w hSw; (try dsimp only at hSw); go_simp <;> with_reducible rfl)
      try simp only [Act.put]
      refine AnyM.take (i := 2) (v := ?_) rfl (by kernel_rfl) (by kernel_rfl) (by kernel_rfl) (by kernel_rfl) (fun _ _ _ h => h) (Or.inl ⟨by rfl, ?_⟩) (by assumption) ?_
      rotate_left 1
      · (intro w hSw; (try dsimp only at hSw); go_simp <;> with_reducible rfl)
      try simp only [Act.put]
      refine AnyM.take (i := 3) (v := ?_) rfl (by kernel_rfl) (by kernel_rfl) (by kernel_rfl) (by kernel_rfl) (fun _ _ _ h => h) (Or.inl ⟨by rfl, ?_⟩) (by assumption) ?_
      rotate_left 1
      · (intro w hSw; (try dsimp only at hSw); go_simp <;> with_reducible rfl)
      try simp only [Act.put]
      refine AnyM.take (i := 4) (v := ?_) rfl (by kernel_rfl) (by kernel_rfl) (by kernel_rfl) (by kernel_rfl) (fun _ _ _ h => h) (Or.inl ⟨by rfl, ?_⟩) (by assumption) ?_
      rotate_left 1
      · (intro w hSw; (try dsimp only at hSw); go_simp <;> with_reducible rfl)
      try simp only [Act.put]
      refine AnyM.take (i := 5) (v := ?_) rfl (by kernel_rfl) (by kernel_rfl) (by kernel_rfl) (by kernel_rfl) (fun _ _ _ h => h) (Or.inl ⟨by rfl, ?_⟩) (by assumption) ?_
      rotate_left 1
      · (intro w hSw; (try dsimp only at hSw); go_simp <;> with_reducible rfl)
      try simp only [Act.put]
      refine AnyM.take (i := 6) (v := ?_) rfl (by kernel_rfl) (by kernel_rfl) (by kernel_rfl) (by kernel_rfl) (fun _ _ _ h => h) (Or.inl ⟨by rfl, ?_⟩) (by assumption) ?_
      rotate_left 1
      · (intro w hSw; (try dsimp only at hSw); go_simp <;> with_reducible rfl)
      try simp only [Act.put]
      refine AnyM.take (i := 7) (v := ?_) rfl (by kernel_rfl) (by kernel_rfl) (by kernel_rfl) (by kernel_rfl) (fun _ _ _ h => h) (Or.inl ⟨by rfl, ?_⟩) (by assumption) ?_
      rotate_left 1
      · (intro w hSw; (try dsimp only at hSw); go_simp <;> with_reducible rfl)
      try simp only [Act.put]
      refine AnyM.take (i := 8) (v := ?_) rfl (by kernel_rfl) (by kernel_rfl) (by kernel_rfl) (by kernel_rfl) (fun _ _ _ h => h) (Or.inl ⟨by rfl, ?_⟩) (by assumption) ?_
      rotate_left 1
      · (intro w hSw; (try dsimp only at hSw); go_simp <;> with_reducible rfl)
      try simp only [Act.put]
      refine AnyM.take (i := 9) (v := ?_) rfl (by kernel_rfl) (by kernel_rfl) (by kernel_rfl) (by kernel_rfl) (fun _ _ _ h => h) (Or.inl ⟨by rfl, ?_⟩) (by assumption) ?_
      rotate_left 1
      · (intro w hSw; (try dsimp only at hSw); go_simp <;> with_reducible rfl)
      try simp only [Act.put]
      refine AnyM.take (i := 10) (v := ?_) rfl (by kernel_rfl) (by kernel_rfl) (by kernel_rfl) (by kernel_rfl) (fun _ _ _ h => h) (Or.inl ⟨by rfl, ?_⟩) (by assumption) ?_
      rotate_left 1
      · (intro w hSw; (try dsimp only at hSw); go_simp <;> with_reducible rfl)
      try simp only [Act.put]
      refine AnyM.take (i := 11) (v := ?_) rfl (by kernel_rfl) (by kernel_rfl) (by kernel_rfl) (by kernel_rfl) (fun _ _ _ h => h) (Or.inl ⟨by rfl, ?_⟩) (by assumption) ?_
      rotate_left 1
      · (intro w hSw; (try dsimp only at hSw); go_simp <;> with_reducible rfl)
      try simp only [Act.put]
      refine AnyM.take (i := 12) (v := ?_) rfl (by kernel_rfl) (by kernel_rfl) (by kernel_rfl) (by kernel_rfl) (fun _ _ _ h => h) (Or.inl ⟨by rfl, ?_⟩) (by assumption) ?_
      rotate_left 1
      · (intro w hSw; (try dsimp only at hSw); go_simp <;> with_reducible rfl)
      try simp only [Act.put]
      refine AnyM.next [13] (by kernel_rfl) (by simp) ?_
      refine NextM.cons rfl (fun K hK => ?_) NextM.nil
      go_simp
      have hQ1 := (hP3.alloc (.cells #[.int .i64 x, .int .i64 (-y)] 3)).below ((Below.refl _ _).drew)
      have hM : Blk (W5.alloc (.cells #[.int .i64 x, .int .i64 (-y)] 3)).drew W5.heap.size 3 [.int .i64 x, .int .i64 (-y)] := Blk.new W5 3 [.int .i64 x, .int .i64 (-y)]
      generalize (W5.alloc (.cells #[.int .i64 x, .int .i64 (-y)] 3)).drew = WF at hQ1 hM ⊢
      have hTe := HS.out _ 1 hQ1.bel hQ1.fr (hQ1.ou.cell 1)
      try dsimp only
      refine hK.out _ _ (fun _ => hTe) ?_
      clear hK K
      try simp only [Act.put]
      refine AnyM.next [14] (by kernel_rfl) (by simp) ?_
      refine NextM.cons rfl (fun K hK => ?_) NextM.nil
      refine step_append_lies _ (by rfl) _ _ _ (by rfl) (q + 1) 3 i0 (.int .i64 0) 1 8 Tryd.underlying22 hi hz0 hz1 hz2 rfl (by decide) Vb _ _ (by rfl) hQ1.vb ⟨_, 0, none⟩ 2 2 [.int .i64 x, .int .i64 (-y)] (by rfl) rfl (World.news_of_block hM) (by simp [Value.oneCell']) (by decide) (by unfold maxLen; omega) (by omega) (Nat.succ_le_of_lt hQ1.ou.lt) _ rfl ?_
      intro gz cz Wz hoz hgz hatz hltz
      have hQ2 := hQ1.appB hoz hgz (fun b hb => by
        have e : gz = b := by simpa [Value.ownBlock] using hb
        subst e
        rcases hatz with e | e
        · exact .inl e
        · exact .inr (by rw [e]; exact Nat.le_refl _))
      have hTv := HS.out _ 1 hQ2.bel hQ2.fr (hQ2.ou.cell 1)
      try dsimp only
      refine hK.out _ _ (fun _ => hTv) ?_
      clear hK K
      try simp only [Act.put]
      refine AnyM.take (i := 15) (v := ?_) rfl (by kernel_rfl) (by kernel_rfl) (by kernel_rfl) (by kernel_rfl) (fun _ _ _ h => h) (Or.inl ⟨by rfl, ?_⟩) (by assumption) ?_
      rotate_left 1
      · (intro w hSw; (try dsimp only at hSw); go_simp <;> with_reducible rfl)
      try simp only [Act.put]
      refine AnyM.next [16] (by kernel_rfl) (by simp) ?_
      refine NextM.cons rfl (fun K hK => ?_) NextM.nil
      have y0 := hQ2.ou.cell 1
      simp only [List.getElem?_cons_zero, List.getElem?_cons_succ] at y0
      have f0 := hQ2.ou.frozen 1
      go_simp
      refine hK.out _ _ (fun h => by simp at h) ?_
      clear hK K
      try simp only [Act.put]
      refine AnyM.done (by kernel_rfl) ?_ _
      rw [← HU.out] at hQ2
      have hQ3 := hQ2.set 1 (.slice (some ⟨gz, 0, none⟩) (2 * k + 2) cz) rfl
      obtain ⟨W6, hW6⟩ : ∃ W6, Wz.setCell ⟨q, 1, none⟩ (Value.slice (some ⟨gz, 0, none⟩) (2 * k + 2) cz) = W6 := ⟨_, rfl⟩
      rw [hW6] at hQ3 ⊢
      clear hW6 hQ2 hQ1 hQ0 hP3 hTd hTe hTv hoz hgz hatz hltz y0 f0 hM HU HS
      go_wp2
      go_roundw
      case rel => exact ⟨k + 1, _, _, by omega, by go_num, by rw [show 2 * (k + 1) = 2 * k + 2 by omega]; exact hQ3⟩
      case measure => simp [intOf]; omega
    · obtain rfl : k = a.length := by omega
      obtain ⟨Aa, ca, rfl⟩ := ownsRow_slice hP.va
      obtain ⟨Ab, cb, rfl⟩ := ownsRow_slice hP.vb
      have y0 := hP.ou.cell 0
      have y1 := hP.ou.cell 1
      have t0 := hP.re.cell 0
      have t1 := hP.re.cell 1
      simp only [List.getElem?_cons_zero, List.getElem?_cons_succ] at y0 y1 t0 t1
      have f0 := hP.re.frozen 0
      have f1 := hP.re.frozen 1
      have hE := hP.re.set2 (.slice Aa (2 * a.length) ca) (.slice Ab (2 * a.length) cb)
      have r1 := (RdT.of_own hP.va).set2 hP.re (by decide) (.slice Aa (2 * a.length) ca) (.slice Ab (2 * a.length) cb)
      have r2 := (RdT.of_own hP.vb).set2 hP.re (by decide) (.slice Aa (2 * a.length) ca) (.slice Ab (2 * a.length) cb)
      have hpq := hP.pq
      have hwr : w.heap.size ≤ r := HRP.out
      have hBE := (hP.bel.setCell (p := ⟨r, 0, none⟩) hwr (.slice Aa (2 * a.length) ca)).setCell (p := ⟨r, 1, none⟩) hwr (.slice Ab (2 * a.length) cb)
      go_wp2
      generalize (wr.setCell ⟨r, 0, none⟩ (.slice Aa (2 * a.length) ca)).setCell ⟨r, 1, none⟩ (.slice Ab (2 * a.length) cb) = WE at hE hBE r1 r2 ⊢
      have z0 := hE.cell 0
      have z1 := hE.cell 1
      simp only [List.getElem?_cons_zero, List.getElem?_cons_succ] at z0 z1
      refine bodyPost_ret (by simp [results, Tryd.results18, go_sem, z0, z1]; try rfl) rfl ?_
      exact ⟨⟨_, _, _, _, rfl, r1, r2⟩, hBE⟩
end Go.Proofs.YtdpcehlakhahiaaDoor
