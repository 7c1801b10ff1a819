/- Contracts: a profile copied into memory of its own; a profile with a further slab. -/
import Derived.Test.YtdeehodekilaiaaG4
import Derived.Test.YtdeehodekilaiaaK1
import Derived.Laws.OwnMore
set_option linter.unusedSimpArgs false
set_option linter.unusedVariables false
namespace Go.Proofs.Ytdeehodekilaiaa
open Go.RowKit
set_option maxRecDepth 100000


set_option maxHeartbeats 1000000 in
theorem copyOwned_c (base : Int) (A : Option Addr) (c : Nat) (l : List G) (w : World) (hr : Rd w A (gs l)) (hl : l.length ≤ 1000) :
    Calls Try.prog 9 #[.agg #[.int .i64 base, .slice A l.length c]] w fun r w' => (∃ v, r = .returned (.agg #[.int .i64 base, v]) ∧ w'.ownsRow w.heap.size 47 2 v l.length (gs l)) ∧ Below w.heap.size w w' := by
  obtain ⟨i0, hi, iz0, iz1, iz2⟩ := info_parts Try.infoS
  obtain ⟨W0, hW0⟩ : ∃ W0, (w.alloc (.cells #[.int .i64 base, .slice A l.length c] 24)).alloc (.cells #[.int .i64 0, .slice none 0 0] 24) = W0 := ⟨_, rfl⟩
  obtain ⟨p, hp⟩ : ∃ p, w.heap.size = p := ⟨_, rfl⟩
  have hX0 : Blk W0 p 24 [.int .i64 base, .slice A l.length c] := by rw [← hW0, ← hp]; exact (two_new w _ _ [_, _] [_, _]).1
  have hR0 : Blk W0 (p + 1) 24 [.int .i64 0, .slice none 0 0] := by rw [← hW0, ← hp]; exact (two_new w _ _ [_, _] [_, _]).2.1
  have hB0 : Below p w W0 := by rw [← hW0, ← hp]; exact (two_new w _ _ [_, _] [_, _]).2.2
  have hr0 := hr.bel (by rw [hp]; exact hB0)
  have HW := hide hW0
  have hsz : p ≤ W0.heap.size := by rw [← hW0, ← hp]; simp; omega
  clear hW0 hr
  have c0 := hX0.cell 0; have c1 := hX0.cell 1; simp only [List.getElem?_cons_zero, List.getElem?_cons_succ] at c0 c1
  have z0 := hR0.lt
  go_enter Try.func9, Try.ntmps9
  go_upto_region 1 with fail
  rw [HW.out]
  refine wp_region_held (S := fun w' => w'.cell? ⟨p, 0, none⟩ = some (.int .i64 base) ∧ w'.cell? ⟨p, 1, none⟩ = some (.slice A l.length c)) (by kernel_rfl) ?_
  have hSd : W0.drew.cell? ⟨p, 0, none⟩ = some (.int .i64 base) ∧ W0.drew.cell? ⟨p, 1, none⟩ = some (.slice A l.length c) := ⟨c0, c1⟩
  change wpAnyH _ _ _ _ _ _ _ _ W0.drew
  clear c0 c1
  refine wpAnyH_take (i := 0) (v := ?_) rfl (by kernel_rfl) (by kernel_rfl) (by kernel_rfl) (fun _ _ _ h => h) (Or.inl ⟨by kernel_rfl, ?_⟩) (by assumption) ?_
  rotate_left 1
  · (intro w hSw; obtain ⟨hk1, hk2⟩ := hSw; go_simp <;> with_reducible rfl)
  simp only [Act.put, List.getElem_toArray, List.getElem_cons_zero, List.setIfInBounds_toArray, List.set_cons_zero, List.set_cons_succ]
  refine wpAnyH_take (i := 1) (v := ?_) rfl (by kernel_rfl) (by kernel_rfl) (by kernel_rfl) (fun _ _ _ h => h) (Or.inl ⟨by kernel_rfl, ?_⟩) (by assumption) ?_
  rotate_left 1
  · (intro w hSw; obtain ⟨hk1, hk2⟩ := hSw; go_simp <;> with_reducible rfl)
  simp only [Act.put, List.getElem_toArray, List.getElem_cons_zero, List.getElem_cons_succ, List.setIfInBounds_toArray, List.set_cons_zero, List.set_cons_succ]
  refine wpAnyH_take (i := 3) (v := ?_) rfl (by kernel_rfl) (by kernel_rfl) (by kernel_rfl) (fun _ _ _ h => h) (Or.inl ⟨by kernel_rfl, ?_⟩) (by assumption) ?_
  rotate_left 1
  · (intro w hSw; obtain ⟨hk1, hk2⟩ := hSw; go_simp <;> with_reducible rfl)
  simp only [Act.put, List.getElem_toArray, List.getElem_cons_zero, List.getElem_cons_succ, List.setIfInBounds_toArray, List.set_cons_zero, List.set_cons_succ]
  refine wpAnyH_take (i := 4) (v := ?_) rfl (by kernel_rfl) (by kernel_rfl) (by kernel_rfl) (fun _ _ _ h => h) (Or.inl ⟨by kernel_rfl, ?_⟩) (by assumption) ?_
  rotate_left 1
  · (intro w hSw; obtain ⟨hk1, hk2⟩ := hSw; go_simp <;> with_reducible rfl)
  simp only [Act.put, List.getElem_toArray, List.getElem_cons_zero, List.getElem_cons_succ, List.setIfInBounds_toArray, List.set_cons_zero, List.set_cons_succ]
  refine nextH (i := 2) (by kernel_rfl) rfl (fun K hK => ?_)
  go_simp
  obtain ⟨W5, hW5⟩ : ∃ W5, (W0.alloc (.cells #[] 47)).drew = W5 := ⟨_, rfl⟩
  have hb5 : Below W0.heap.size W0 W5 := by rw [← hW5]; exact (alloc_bel _ _).drew
  have hown5 : W5.ownsRow W0.heap.size 47 2 (.slice (some ⟨W0.heap.size, 0, none⟩) 0 0) 0 [] := by rw [← hW5]; exact World.ownsRow_made W0 #[] 0 (Nat.le_refl _) (by unfold maxLen; omega) rfl
  have hX5 := hX0.bel hb5
  have hR5 := hR0.bel hb5
  have hr5 := hr0.bel hb5
  have hS5 : W5.cell? ⟨p, 0, none⟩ = some (.int .i64 base) ∧ W5.cell? ⟨p, 1, none⟩ = some (.slice A l.length c) := ⟨hX5.cell 0, hX5.cell 1⟩
  have hs5 : W0.heap.size ≤ W5.heap.size := hb5.size
  rw [hW5]
  clear hW5 hSd
  try dsimp only
  refine hK _ _ hS5 ?_
  clear hK K
  refine nextH (i := 5) (by kernel_rfl) rfl (fun K hK => ?_)
  refine step_append_rd _ (by rfl) _ _ _ (by rfl) W0.heap.size 47 i0 _ 2 16 Try.underlying22 hi iz0 iz1 iz2 rfl (by decide) (.slice (some ⟨W0.heap.size, 0, none⟩) 0 0) 0 [] (by rfl) hown5 A l.length c (gs l) (by rfl) (by simp) hr5 (gs_one l) (by unfold maxLen; omega) (by omega) hs5 ?_
  intro v6 W6 hown6 hg6
  obtain ⟨A6, c6, rfl⟩ := ownsRow_slice hown6
  have hX6 : Blk W6 p 24 [.int .i64 base, .slice A l.length c] := (hg6.block p hX5.lt (fun e => by have e' : some p = some W0.heap.size := e; have := Option.some.inj e'; omega)).trans hX5
  have hR6 : Blk W6 (p + 1) 24 [.int .i64 0, .slice none 0 0] := (hg6.block (p + 1) hR5.lt (fun e => by have e' : some (p + 1) = some W0.heap.size := e; have := Option.some.inj e'; omega)).trans hR5
  have hS6 : W6.cell? ⟨p, 0, none⟩ = some (.int .i64 base) ∧ W6.cell? ⟨p, 1, none⟩ = some (.slice A l.length c) := ⟨hX6.cell 0, hX6.cell 1⟩
  have hB6 : Below p w W6 := (hB0.trans (hb5.mono (by omega))).grown hg6 (by omega) (fun j hj => by have e' : some W0.heap.size = some j := hj; have := Option.some.inj e'; omega)
  simp only [Act.put, List.getElem_toArray, List.getElem_cons_zero, List.getElem_cons_succ, List.setIfInBounds_toArray, List.set_cons_zero, List.set_cons_succ]
  refine hK _ _ hS6 ?_
  clear hK K
  refine nextH (i := 6) (by kernel_rfl) rfl (fun K hK => ?_)
  go_simp
  refine hK _ _ hS6 ?_
  clear hK K
  have r0 := hR6.frozen 0
  have r1 := hR6.frozen 1
  have r2 := hR6.cell 0
  have r3 := hR6.cell 1
  have r4 := hR6.lt
  simp only [List.getElem?_cons_zero, List.getElem?_cons_succ] at r2 r3
  refine nextH (i := 7) (by kernel_rfl) rfl (fun K hK => ?_)
  go_simp
  have hBE : Below p w ((W6.setCell ⟨p + 1, 0, none⟩ (.int .i64 base)).setCell ⟨p + 1, 1, none⟩ (.slice A6 l.length c6)) := (hB6.setCell (by show p ≤ p + 1; omega) _).setCell (by show p ≤ p + 1; omega) _
  have hRE := (hR6.set_ 0 (.int .i64 base)).set_ 1 (.slice A6 l.length c6)
  have hXE := (hX6.far (p := ⟨p + 1, 0, none⟩) (by show p ≠ p + 1; omega) (.int .i64 base)).far (p := ⟨p + 1, 1, none⟩) (by show p ≠ p + 1; omega) (.slice A6 l.length c6)
  have hrE := own_far (own_far hown6 (p := ⟨p + 1, 0, none⟩) (by show p + 1 < W0.heap.size; omega) (.int .i64 base)) (p := ⟨p + 1, 1, none⟩) (by show p + 1 < W0.heap.size; omega) (.slice A6 l.length c6)
  generalize (W6.setCell ⟨p + 1, 0, none⟩ (.int .i64 base)).setCell ⟨p + 1, 1, none⟩ (.slice A6 l.length c6) = WE at hBE hRE hXE hrE ⊢
  refine hK _ _ ⟨hXE.cell 0, hXE.cell 1⟩ ?_
  clear hK K
  refine wpAnyH_done (by kernel_rfl) ?_ _
  have v0 := hRE.cell 0
  have v1 := hRE.cell 1
  simp only [List.set_cons_zero, List.set_cons_succ, List.getElem?_cons_zero, List.getElem?_cons_succ] at v0 v1
  go_wp2
  exact bodyPost_ret (v := .agg #[.int .i64 base, .slice A6 l.length c6]) (by simp [results, Try.results9, go_sem, v0, v1]; try rfl) rfl ⟨⟨_, rfl, by rw [hp]; exact World.ownsRow.mono (by simpa using hrE) hsz⟩, by rw [hp]; exact hBE⟩


set_option maxHeartbeats 1000000 in
theorem with_c (base f t : Int) (A : Option Addr) (c : Nat) (l : List G) (w : World) (hr : Rd w A (gs l)) (hl : l.length ≤ 900) (f0 : 0 ≤ f) (f1 : f ≤ 3000) :
    Calls Try.prog 53 #[.agg #[.int .i64 base, .slice A l.length c], .int .i64 f, .int .i64 t] w fun r w' => (∃ A' c', r = .returned (.agg #[.int .i64 base, .slice A' (l.length + 1) c']) ∧ RdT w' 47 A' (gs (l ++ [(f * f, t)]))) ∧ Below w.heap.size w w' := by
  obtain ⟨i0, hi, iz0, iz1, iz2⟩ := info_parts Try.infoS
  have hff := mul_bd f0 f1 f0 f1
  have u1 : IntKind.i64.wrap (f * f) = f * f := by simp (disch := omega) only [IntWalk.i64_in]
  obtain ⟨W0, hW0⟩ : ∃ W0, (w.alloc (.cells #[.int .i64 base, .slice A l.length c] 24)).alloc (.cells #[.int .i64 0, .slice none 0 0] 24) = W0 := ⟨_, rfl⟩
  obtain ⟨p, hp⟩ : ∃ p, w.heap.size = p := ⟨_, rfl⟩
  have hX0 : Blk W0 p 24 [.int .i64 base, .slice A l.length c] := by rw [← hW0, ← hp]; exact (two_new w _ _ [_, _] [_, _]).1
  have hR0 : Blk W0 (p + 1) 24 [.int .i64 0, .slice none 0 0] := by rw [← hW0, ← hp]; exact (two_new w _ _ [_, _] [_, _]).2.1
  have hB0 : Below p w W0 := by rw [← hW0, ← hp]; exact (two_new w _ _ [_, _] [_, _]).2.2
  have hr0 := hr.bel (by rw [hp]; exact hB0)
  have HCO := hide (fun W h => copyOwned_c base A c l W h (by omega))
  have HW := hide hW0
  clear hW0 hr
  have c0 := hX0.cell 0; have c1 := hX0.cell 1; simp only [List.getElem?_cons_zero, List.getElem?_cons_succ] at c0 c1
  have z0 := hR0.lt
  go_enter Try.func53, Try.ntmps53
  go_upto_region 1 with fail
  rw [HW.out]
  go_upto_region 2 with (first | (go_at_call 9; refine (HCO.out _ hr0).mono ?_; rintro e w1 ⟨⟨v, rfl, hown⟩, hb1⟩; obtain ⟨A1, c1', rfl⟩ := ownsRow_slice hown))
  obtain ⟨q, hq⟩ : ∃ q, w1.heap.size = q := ⟨_, rfl⟩
  obtain ⟨W2, hW2⟩ : ∃ W, w1.alloc (.cells #[.int .i64 base, .slice A1 l.length c1'] 24) = W := ⟨_, rfl⟩
  have hb2 : Below w1.heap.size w1 W2 := by rw [← hW2]; exact alloc_bel _ _
  have hQ2 : Blk W2 q 24 [.int .i64 base, .slice A1 l.length c1'] := by rw [← hW2, ← hq]; exact Blk.new w1 _ [_, _]
  have hR2 := (hR0.bel hb1).bel hb2
  have hown2 := ownsRow_bel hown hb2
  have hB2 := bel_tr (bel_tr hB0 (by omega) hb1) (by have := hb1.size; omega) hb2
  have hs1 := hb1.size
  have hs2 := hb2.size
  have hlt1 := hown.lt
  have hzp := z0
  rw [hW2, hq]
  clear hW2 c0 c1 z0 hX0 hR0 hr0 hown hb1 hb2
  have q0 := hQ2.cell 0; have q1 := hQ2.cell 1; simp only [List.getElem?_cons_zero, List.getElem?_cons_succ] at q0 q1
  have q2 := hQ2.frozen 1
  have zq := hQ2.lt
  go_upto_region 3 with (at_builtin; refine wpList_append_own _ rfl _ _ 22 rfl W0.heap.size 47 i0 _ 2 16 Try.underlying22 hi iz0 iz1 iz2 rfl (by decide) _ _ _ rfl (hown2.alloc _) ⟨W2.heap.size, 0, none⟩ 1 1 [.int .i64 (f * f), .int .i64 t] rfl rfl (World.news_of_block (heap_alloc_new W2 _)) (by simp [Value.oneCell']) (by unfold maxLen; omega) (by omega) (by simp; omega) ?_; intro v' w8 hown8 hg8 _; obtain ⟨g8, c8, rfl⟩ := ownsRow_slice hown8; have hQ8 : Blk w8 q 24 [.int .i64 base, .slice A1 l.length c1'] := (hg8.block q (by simp; omega) (fun e => by have := (hlt1 q e.symm).2; omega)).trans (hQ2.bel (alloc_bel _ _)); have n0 := hQ8.cell 0; have n1 := hQ8.cell 1; have n2 := hQ8.frozen 1; simp only [List.getElem?_cons_zero, List.getElem?_cons_succ] at n0 n1; have n3 := hQ8.lt)
  have hR8 : Blk w8 (p + 1) 24 [.int .i64 0, .slice none 0 0] := (hg8.block (p + 1) (by have := hR2.lt; simp; omega) (fun e => by have := (hlt1 (p + 1) e.symm).1; omega)).trans (hR2.bel (alloc_bel _ _))
  have hB8 : Below p w w8 := (bel_alloc hB2 (by omega) _).grown hg8 (by simp; omega) (fun j hj => by have := (hlt1 j hj).1; omega)
  obtain ⟨W9, hW9⟩ : ∃ W, w8.setCell ⟨q, 1, none⟩ (.slice g8 (l.length + 1) c8) = W := ⟨_, rfl⟩
  have hQ9 : Blk W9 q 24 [.int .i64 base, .slice g8 (l.length + 1) c8] := by rw [← hW9]; exact hQ8.set_ 1 _
  have hR9 : Blk W9 (p + 1) 24 [.int .i64 0, .slice none 0 0] := by rw [← hW9]; exact hR8.far (by show p + 1 ≠ q; omega) _
  have hB9 : Below p w W9 := by rw [← hW9]; exact hB8.setCell (by show p ≤ q; omega) _
  have hr9 : RdT W9 47 g8 (gs (l ++ [(f * f, t)])) := by
    rw [← hW9, gs_append]
    exact (RdT.of_own hown8).keep (KeepT.setCell hQ8 (by decide) 1 _)
  rw [hW9]
  clear hW9 n0 n1 n2 n3 q0 q1 q2 zq
  have n0 := hQ9.cell 0; have n1 := hQ9.cell 1; simp only [List.getElem?_cons_zero, List.getElem?_cons_succ] at n0 n1
  have n3 := hQ9.lt
  have fz0 := hR9.frozen 0
  have fz1 := hR9.frozen 1
  have r0 := hR9.cell 0; have r1 := hR9.cell 1; simp only [List.getElem?_cons_zero, List.getElem?_cons_succ] at r0 r1
  have r4 := hR9.lt
  go_wp2
  obtain ⟨WE, hWE⟩ : ∃ WE, (W9.setCell ⟨p + 1, 0, none⟩ (.int .i64 base)).setCell ⟨p + 1, 1, none⟩ (.slice g8 (l.length + 1) c8) = WE := ⟨_, rfl⟩
  rw [hWE]
  have hE : Blk WE (p + 1) 24 [.int .i64 base, .slice g8 (l.length + 1) c8] := by rw [← hWE]; exact (hR9.set_ 0 _).set_ 1 _
  have hBE : Below p w WE := by rw [← hWE]; exact (hB9.setCell (by show p ≤ p + 1; omega) _).setCell (by show p ≤ p + 1; omega) _
  have hrE : RdT WE 47 g8 (gs (l ++ [(f * f, t)])) := by rw [← hWE]; exact (hr9.keep (KeepT.setCell hR9 (by decide) 0 _)).keep (KeepT.setCell (hR9.set_ 0 _) (by decide) 1 _)
  clear hWE
  have g0 := hE.cell 0; have g1 := hE.cell 1; simp only [List.getElem?_cons_zero, List.getElem?_cons_succ] at g0 g1
  exact bodyPost_ret (v := .agg #[.int .i64 base, .slice g8 (l.length + 1) c8]) (by simp [results, Try.results53, go_sem, g0, g1]; try rfl) rfl ⟨⟨g8, c8, rfl, hrE⟩, by rw [hp]; exact hBE⟩

theorem nextH2 {P : Program} {ops : Array Oper} {Q : Exit → Act → World → Prop} {md : Region.Mode} {S : World → Prop} {n : Nat} {l : Array Bool} {a : Act} {w : World} {i j : Nat} {o o' : Oper} (hr : Region.ready md ops l = [i, j]) (ho : ops[i]? = some o) (ho' : ops[j]? = some o')
    (h : ∀ K : Act → World → Prop, (∀ a w, S w → wpAnyH P md ops Q S n (l.setIfInBounds i true) a w → K a w) → if Region.wanted o (yielded ops a.tmps) = true then Oper.wp P o a w K Q else K (a.put o.dst undef) w)
    (h' : ∀ K : Act → World → Prop, (∀ a w, S w → wpAnyH P md ops Q S n (l.setIfInBounds j true) a w → K a w) → if Region.wanted o' (yielded ops a.tmps) = true then Oper.wp P o' a w K Q else K (a.put o'.dst undef) w) :
    wpAnyH P md ops Q S (n + 1) l a w := wpAnyH_all hr (by simp) (fun k hk => by
  rcases List.mem_cons.1 hk with rfl | hk
  · exact wpOp_step ho fun K hK => h K fun a w hS hW => hK a w ⟨hS, hW⟩
  · rcases List.mem_singleton.1 hk with rfl
    exact wpOp_step ho' fun K hK => h' K fun a w hS hW => hK a w ⟨hS, hW⟩)
end Go.Proofs.Ytdeehodekilaiaa
