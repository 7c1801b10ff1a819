/- Contracts: a copy of a profile in a row of the call's own; rows' beginnings and ends. -/
import Derived.Test.YtdeehodekilaiaaZ1
import Derived.Test.YtdeehodekilaiaaG2
import Derived.Test.YtdeehodekilaiaaJ1
set_option linter.unusedSimpArgs false
set_option linter.unusedVariables false
namespace Go.Proofs.Ytdeehodekilaiaa
open Go.RowKit
set_option maxRecDepth 100000

set_option maxHeartbeats 1000000 in
theorem copyOwn2_c (base : Int) (A : Option Addr) (c : Nat) (l : List G) (w : World) (hr : Rd w A (gs l)) (hl : l.length ≤ 1000) :
    Calls Try.prog 9 #[.agg #[.int .i64 base, .slice A l.length c]] w fun r w' => (∃ v, r = .returned (.agg #[.int .i64 base, v]) ∧ w'.ownsRow w.heap.size 47 2 v l.length (gs l)) ∧ Below w.heap.size w w' := by
  obtain ⟨i0, hi, iz0, iz1, iz2⟩ := info_parts Try.infoS
  obtain ⟨W0, hW0⟩ : ∃ W0, (w.alloc (.cells #[.int .i64 base, .slice A l.length c] 24)).alloc (.cells #[.int .i64 0, .slice none 0 0] 24) = W0 := ⟨_, rfl⟩
  obtain ⟨p, hp⟩ : ∃ p, w.heap.size = p := ⟨_, rfl⟩
  have hX0 : Blk W0 p 24 [.int .i64 base, .slice A l.length c] := by rw [← hW0, ← hp]; exact (two_new w _ _ [_, _] [_, _]).1
  have hR0 : Blk W0 (p + 1) 24 [.int .i64 0, .slice none 0 0] := by rw [← hW0, ← hp]; exact (two_new w _ _ [_, _] [_, _]).2.1
  have hB0 : Below p w W0 := by rw [← hW0, ← hp]; exact (two_new w _ _ [_, _] [_, _]).2.2
  have hr0 := hr.bel (by rw [hp]; exact hB0)
  have HW := hide hW0
  have hsz : p ≤ W0.heap.size := by rw [← hW0, ← hp]; simp; omega
  clear hW0 hr
  have c0 := hX0.cell 0; have c1 := hX0.cell 1; simp only [List.getElem?_cons_zero, List.getElem?_cons_succ] at c0 c1
  have z0 := hR0.lt
  go_enter Try.func9, Try.ntmps9
  go_upto_region 1 with fail
  rw [HW.out]
  refine wp_region_held (S := fun w' => w'.cell? ⟨p, 0, none⟩ = some (.int .i64 base) ∧ w'.cell? ⟨p, 1, none⟩ = some (.slice A l.length c)) (by kernel_rfl) ?_
  have hSd : W0.drew.cell? ⟨p, 0, none⟩ = some (.int .i64 base) ∧ W0.drew.cell? ⟨p, 1, none⟩ = some (.slice A l.length c) := ⟨c0, c1⟩
  change wpAnyH _ _ _ _ _ _ _ _ W0.drew
  clear c0 c1
  refine wpAnyH_take (i := 0) (v := ?_) rfl (by kernel_rfl) (by kernel_rfl) (by kernel_rfl) (fun _ _ _ h => h) (Or.inl ⟨by kernel_rfl, ?_⟩) (by assumption) ?_
  rotate_left 1
  · (intro w hSw; obtain ⟨hk1, hk2⟩ := hSw; go_simp <;> with_reducible rfl)
  simp only [Act.put, List.getElem_toArray, List.getElem_cons_zero, List.setIfInBounds_toArray, List.set_cons_zero, List.set_cons_succ]
  refine wpAnyH_take (i := 1) (v := ?_) rfl (by kernel_rfl) (by kernel_rfl) (by kernel_rfl) (fun _ _ _ h => h) (Or.inl ⟨by kernel_rfl, ?_⟩) (by assumption) ?_
  rotate_left 1
  · (intro w hSw; obtain ⟨hk1, hk2⟩ := hSw; go_simp <;> with_reducible rfl)
  simp only [Act.put, List.getElem_toArray, List.getElem_cons_zero, List.getElem_cons_succ, List.setIfInBounds_toArray, List.set_cons_zero, List.set_cons_succ]
  refine wpAnyH_take (i := 3) (v := ?_) rfl (by kernel_rfl) (by kernel_rfl) (by kernel_rfl) (fun _ _ _ h => h) (Or.inl ⟨by kernel_rfl, ?_⟩) (by assumption) ?_
  rotate_left 1
  · (intro w hSw; obtain ⟨hk1, hk2⟩ := hSw; go_simp <;> with_reducible rfl)
  simp only [Act.put, List.getElem_toArray, List.getElem_cons_zero, List.getElem_cons_succ, List.setIfInBounds_toArray, List.set_cons_zero, List.set_cons_succ]
  refine wpAnyH_take (i := 4) (v := ?_) rfl (by kernel_rfl) (by kernel_rfl) (by kernel_rfl) (fun _ _ _ h => h) (Or.inl ⟨by kernel_rfl, ?_⟩) (by assumption) ?_
  rotate_left 1
  · (intro w hSw; obtain ⟨hk1, hk2⟩ := hSw; go_simp <;> with_reducible rfl)
  simp only [Act.put, List.getElem_toArray, List.getElem_cons_zero, List.getElem_cons_succ, List.setIfInBounds_toArray, List.set_cons_zero, List.set_cons_succ]
  refine nextH (i := 2) (by kernel_rfl) rfl (fun K hK => ?_)
  go_simp
  obtain ⟨W5, hW5⟩ : ∃ W5, (W0.alloc (.cells #[] 47)).drew = W5 := ⟨_, rfl⟩
  have hb5 : Below W0.heap.size W0 W5 := by rw [← hW5]; exact (alloc_bel _ _).drew
  have hown5 : W5.ownsRow W0.heap.size 47 2 (.slice (some ⟨W0.heap.size, 0, none⟩) 0 0) 0 [] := by rw [← hW5]; exact World.ownsRow_made W0 #[] 0 (Nat.le_refl _) (by unfold maxLen; omega) rfl
  have hX5 := hX0.bel hb5
  have hR5 := hR0.bel hb5
  have hr5 := hr0.bel hb5
  have hS5 : W5.cell? ⟨p, 0, none⟩ = some (.int .i64 base) ∧ W5.cell? ⟨p, 1, none⟩ = some (.slice A l.length c) := ⟨hX5.cell 0, hX5.cell 1⟩
  have hs5 : W0.heap.size ≤ W5.heap.size := hb5.size
  rw [hW5]
  clear hW5 hSd
  try dsimp only
  refine hK _ _ hS5 ?_
  clear hK K
  refine nextH (i := 5) (by kernel_rfl) rfl (fun K hK => ?_)
  refine step_append_rd _ (by rfl) _ _ _ (by rfl) W0.heap.size 47 i0 _ 2 16 Try.underlying22 hi iz0 iz1 iz2 rfl (by decide) (.slice (some ⟨W0.heap.size, 0, none⟩) 0 0) 0 [] (by rfl) hown5 A l.length c (gs l) (by rfl) (by simp) hr5 (gs_one l) (by unfold maxLen; omega) (by omega) hs5 ?_
  intro v6 W6 hown6 hg6
  obtain ⟨A6, c6, rfl⟩ := ownsRow_slice hown6
  have hX6 : Blk W6 p 24 [.int .i64 base, .slice A l.length c] := (hg6.block p hX5.lt (fun e => by have e' : some p = some W0.heap.size := e; have := Option.some.inj e'; omega)).trans hX5
  have hR6 : Blk W6 (p + 1) 24 [.int .i64 0, .slice none 0 0] := (hg6.block (p + 1) hR5.lt (fun e => by have e' : some (p + 1) = some W0.heap.size := e; have := Option.some.inj e'; omega)).trans hR5
  have hS6 : W6.cell? ⟨p, 0, none⟩ = some (.int .i64 base) ∧ W6.cell? ⟨p, 1, none⟩ = some (.slice A l.length c) := ⟨hX6.cell 0, hX6.cell 1⟩
  have hB6 : Below p w W6 := (hB0.trans (hb5.mono (by omega))).grown hg6 (by omega) (fun j hj => by have e' : some W0.heap.size = some j := hj; have := Option.some.inj e'; omega)
  simp only [Act.put, List.getElem_toArray, List.getElem_cons_zero, List.getElem_cons_succ, List.setIfInBounds_toArray, List.set_cons_zero, List.set_cons_succ]
  refine hK _ _ hS6 ?_
  clear hK K
  refine nextH (i := 6) (by kernel_rfl) rfl (fun K hK => ?_)
  go_simp
  refine hK _ _ hS6 ?_
  clear hK K
  have r0 := hR6.frozen 0
  have r1 := hR6.frozen 1
  have r2 := hR6.cell 0
  have r3 := hR6.cell 1
  have r4 := hR6.lt
  simp only [List.getElem?_cons_zero, List.getElem?_cons_succ] at r2 r3
  refine nextH (i := 7) (by kernel_rfl) rfl (fun K hK => ?_)
  go_simp
  have hBE : Below p w ((W6.setCell ⟨p + 1, 0, none⟩ (.int .i64 base)).setCell ⟨p + 1, 1, none⟩ (.slice A6 l.length c6)) := (hB6.setCell (by show p ≤ p + 1; omega) _).setCell (by show p ≤ p + 1; omega) _
  have hRE := (hR6.set_ 0 (.int .i64 base)).set_ 1 (.slice A6 l.length c6)
  have hXE := (hX6.far (p := ⟨p + 1, 0, none⟩) (by show p ≠ p + 1; omega) (.int .i64 base)).far (p := ⟨p + 1, 1, none⟩) (by show p ≠ p + 1; omega) (.slice A6 l.length c6)
  have hrE := own_far (own_far hown6 (p := ⟨p + 1, 0, none⟩) (by show p + 1 < W0.heap.size; omega) (.int .i64 base)) (p := ⟨p + 1, 1, none⟩) (by show p + 1 < W0.heap.size; omega) (.slice A6 l.length c6)
  generalize (W6.setCell ⟨p + 1, 0, none⟩ (.int .i64 base)).setCell ⟨p + 1, 1, none⟩ (.slice A6 l.length c6) = WE at hBE hRE hXE hrE ⊢
  refine hK _ _ ⟨hXE.cell 0, hXE.cell 1⟩ ?_
  clear hK K
  refine wpAnyH_done (by kernel_rfl) ?_ _
  have v0 := hRE.cell 0
  have v1 := hRE.cell 1
  simp only [List.set_cons_zero, List.set_cons_succ, List.getElem?_cons_zero, List.getElem?_cons_succ] at v0 v1
  go_wp2
  exact bodyPost_ret (v := .agg #[.int .i64 base, .slice A6 l.length c6]) (by simp [results, Try.results9, go_sem, v0, v1]; try rfl) rfl ⟨⟨_, rfl, by rw [hp]; exact World.ownsRow.mono (by simpa using hrE) hsz⟩, by rw [hp]; exact hBE⟩

/-- A row's beginning is a row. -/
theorem own_take {W : World} {base : Nat} {e : TypeId} {size n c g k : Nat} {xs : List Value} (h : W.ownsRow base e size (.slice (some ⟨g, 0, none⟩) n c) n xs) (hk : k ≤ n) : W.ownsRow base e size (.slice (some ⟨g, 0, none⟩) k c) k (xs.take (k * size)) := by
  obtain ⟨h1, h2⟩ := h
  have hm : k * size ≤ n * size := Nat.mul_le_mul_right _ hk
  refine ⟨by rw [List.length_take]; omega, ?_⟩
  rcases h2 with ⟨h3, _⟩ | ⟨g', cap, cur, h3, hb, hg, hn, hx, hs, ht⟩
  · cases h3
  · cases h3
    refine .inr ⟨g, c, cur, rfl, hb, hg, by omega, hx, hs, ?_⟩
    rw [← ht, List.take_take]
    congr 1
    omega
theorem gs_take_ (l : List G) (n : Nat) : (gs l).take (n * 2) = gs (l.take n) := by
  induction l generalizing n with
  | nil => simp [gs]
  | cons a l ih =>
    cases n with
    | zero => simp [gs]
    | succ n =>
      have := ih n
      simp only [gs, List.flatMap_cons, List.take_succ_cons] at this ⊢
      rw [show (n + 1) * 2 = n * 2 + 1 + 1 by omega]
      simp only [List.cons_append, List.nil_append, List.take_succ_cons, this]
/-- A row's end can be read. -/
theorem Rd.gs_drop {w : World} {b off : Nat} {l : List G} (h : Rd w (some ⟨b, off, none⟩) (gs l)) (n : Nat) : Rd w (some ⟨b, off + n * 2, none⟩) (gs (l.drop n)) := by
  intro hx
  have e : gs (l.take n) ++ gs (l.drop n) = gs l := by rw [← gs_append, List.take_append_drop]
  have hne : gs l ≠ [] := by
    intro e'
    rw [e'] at e
    exact hx (List.append_eq_nil_iff.1 e).2
  by_cases hn : n ≤ l.length
  · obtain ⟨b', off', e2, hb, hc⟩ := h hne
    cases e2
    refine ⟨b, off + n * 2, rfl, hb, fun j u hu => ?_⟩
    have := hc (n * 2 + j) u (by rw [← e, List.getElem?_append_right (by simp; omega)]; rw [← hu]; congr 1; simp; omega)
    rw [← this]
    congr 2
    omega
  · exact absurd (by rw [List.drop_eq_nil_of_le (by omega)]; rfl) hx
theorem own_setT {W : World} {b : Nat} {e t : TypeId} {s n g : Nat} {v : Value} {xs cs : List Value} (h : W.ownsRow b e s v n xs) (hB : Blk W g t cs) (hne : e ≠ t) (i : Nat) (u : Value) : (W.setCell ⟨g, i, none⟩ u).ownsRow b e s v n xs :=
  h.kept (row := some g) ⟨rfl, rfl, rfl, by simp [World.setCell], fun k _ hne => Below.heap_setCell _ _ _ _ (fun e => hne (by rw [e]))⟩ (.inr (row_blk h hB hne))
/-- A block kept while a row of another kind is stored into. -/
theorem blk_own {W : World} {b : Nat} {e t : TypeId} {s n c g q : Nat} {xs cs : List Value} (hB : Blk W g t cs) (h : W.ownsRow b e s (.slice (some ⟨q, 0, none⟩) n c) n xs) (hne : e ≠ t) (i : Nat) (u : Value) : Blk (W.setCell ⟨q, i, none⟩ u) g t cs :=
  hB.far (fun (e' : g = q) => row_blk h hB hne (by rw [e']; rfl)) u
theorem own_some {W : World} {b : Nat} {e : TypeId} {s n : Nat} {v : Value} {xs : List Value} (h : W.ownsRow b e s v n xs) (hn : 0 < n) : ∃ g c, v = .slice (some ⟨g, 0, none⟩) n c ∧ b ≤ g ∧ g < W.heap.size ∧ n ≤ c := by
  rcases h.2 with ⟨_, h3⟩ | ⟨g', cap, cur, h3, hb, hg, hn', hx, hs, ht⟩
  · omega
  · exact ⟨g', cap, h3, hb, (Array.getElem?_eq_some_iff.1 hg).1, hn'⟩
end Go.Proofs.Ytdeehodekilaiaa
