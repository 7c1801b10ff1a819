/- Contracts: the index in a slab of a trace. -/
import Derived.Test.YtdeehodekilaiaaF9
set_option linter.unusedSimpArgs false
set_option linter.unusedVariables false
namespace Go.Proofs.Ytdeehodekilaiaa
open Go.RowKit
set_option maxRecDepth 100000

section
variable {w' w1 : World} {p0 p1 p2 p3 p4 : Addr} {v0 v1 v2 v3 v4 : Value}
/-- Five cells behind a call. -/
theorem five_bel (h : w'.cell? p0 = some v0 ∧ w'.cell? p1 = some v1 ∧ w'.cell? p2 = some v2 ∧ w'.cell? p3 = some v3 ∧ w'.cell? p4 = some v4) (hb : Below w'.heap.size w' w1) :
    w1.cell? p0 = some v0 ∧ w1.cell? p1 = some v1 ∧ w1.cell? p2 = some v2 ∧ w1.cell? p3 = some v3 ∧ w1.cell? p4 = some v4 := by
  obtain ⟨a, b, c, d, e⟩ := h
  exact ⟨(hb.cell (World.block_lt_of_cell? _ _ a)).trans a, (hb.cell (World.block_lt_of_cell? _ _ b)).trans b, (hb.cell (World.block_lt_of_cell? _ _ c)).trans c, (hb.cell (World.block_lt_of_cell? _ _ d)).trans d, (hb.cell (World.block_lt_of_cell? _ _ e)).trans e⟩
end

set_option maxHeartbeats 2000000 in
theorem index_c (b off n c j k : Nat) (after width fj fk : Int) (w : World) (hj0 : w.cell? ⟨b, off + j * 3, none⟩ = some (.int .i64 fj)) (hk0 : w.cell? ⟨b, off + k * 3, none⟩ = some (.int .i64 fk)) (hj : j < n) (hk : k < n) (hn : n ≤ 1000)
    (h1 : 1 ≤ fj) (h2 : fj ≤ 3000) (h3 : 1 ≤ fk) (h4 : fk ≤ 3000) (hlt : fj * fj < fk * fk) :
    Calls Try.prog 64 #[.agg #[.slice (some ⟨b, off, none⟩) n c, .int .i64 after, .int .i64 width], .int .i64 j, .int .i64 k] w fun r w' =>
      r = .returned (.agg #[.int .i64 (idx (fj * fj) fk).1, .int .i64 (idx (fj * fj) fk).2]) ∧ Below w.heap.size w w' := by
  have hblt := World.block_lt_of_cell? _ _ hj0
  dsimp only at hblt
  obtain ⟨W0, hW0⟩ : ∃ W0, (w.alloc (.cells #[.slice (some ⟨b, off, none⟩) n c, .int .i64 after, .int .i64 width] 98)).alloc (.cells #[.int .i64 0, .int .i64 0] 51) = W0 := ⟨_, rfl⟩
  obtain ⟨p, hp⟩ : ∃ p, w.heap.size = p := ⟨_, rfl⟩
  have hX0 : Blk W0 p 98 [.slice (some ⟨b, off, none⟩) n c, .int .i64 after, .int .i64 width] := by rw [← hW0, ← hp]; exact (Blk.new w _ [_, _, _]).bel (alloc_bel _ _)
  have hR0 : Blk W0 (p + 1) 51 [.int .i64 0, .int .i64 0] := by rw [← hW0, ← hp]; have := Blk.new (w.alloc (.cells #[.slice (some ⟨b, off, none⟩) n c, .int .i64 after, .int .i64 width] 98)) 51 [.int .i64 0, .int .i64 0]; simpa using this
  have hB0 : Below p w W0 := by rw [← hW0, ← hp]; exact bel_alloc (alloc_bel w _) (by simp) _
  have HW := hide hW0
  have x0 := (hB0.cell (p := ⟨b, off + j * 3, none⟩) (by rw [← hp]; exact hblt)).trans hj0
  have x1 := (hB0.cell (p := ⟨b, off + k * 3, none⟩) (by rw [← hp]; exact hblt)).trans hk0
  have hz0 := hR0.lt
  have hbp : b < p := by omega
  clear hW0 hj0 hk0 hblt
  have c0 := hX0.cell 0; have c1 := hX0.cell 1; have c2 := hX0.cell 2; simp only [List.getElem?_cons_zero, List.getElem?_cons_succ] at c0 c1 c2
  have hff := mul_bd (show 0 ≤ fj by omega) h2 (show 0 ≤ fj by omega) h2
  have HI := hide (fun W => indexOf_c (fj * fj) fk W h3 h4 hff.1 hlt)
  have HS := hide (fun W h => square_c b off n c j after width fj W h hj hn h1 h2)
  clear hlt hff
  generalize fj * fj = sq at HI HS ⊢
  generalize (idx sq fk).1 = ilo at HI ⊢
  generalize (idx sq fk).2 = ihi at HI ⊢
  have i0 : (0 : Int) ≤ (k : Int) := by omega
  have i1 : (k : Int) < (n : Int) := by omega
  have hR1 : ∀ W', Below W0.heap.size W0 W' → (W'.cell? ⟨p + 1, 0, none⟩ = some (.int .i64 0) ∧ W'.cell? ⟨p + 1, 1, none⟩ = some (.int .i64 0)) ∧ W'.frozen? ⟨p + 1, 0, none⟩ = false ∧ W'.frozen? ⟨p + 1, 1, none⟩ = false := fun W' hb => by
    have h := hR0.bel hb
    exact ⟨⟨h.cell 0, h.cell 1⟩, h.frozen 0, h.frozen 1⟩
  go_enter Try.func64, Try.ntmps64
  go_upto_region 1 with fail
  rw [HW.out]
  refine wp_region_held (S := fun w' => w'.cell? ⟨p, 0, none⟩ = some (.slice (some ⟨b, off, none⟩) n c) ∧ w'.cell? ⟨p, 1, none⟩ = some (.int .i64 after) ∧ w'.cell? ⟨p, 2, none⟩ = some (.int .i64 width) ∧ w'.cell? ⟨b, off + j * 3, none⟩ = some (.int .i64 fj) ∧ w'.cell? ⟨b, off + k * 3, none⟩ = some (.int .i64 fk)) (by kernel_rfl) ?_
  have hSd : W0.drew.cell? ⟨p, 0, none⟩ = some (.slice (some ⟨b, off, none⟩) n c) ∧ W0.drew.cell? ⟨p, 1, none⟩ = some (.int .i64 after) ∧ W0.drew.cell? ⟨p, 2, none⟩ = some (.int .i64 width) ∧ W0.drew.cell? ⟨b, off + j * 3, none⟩ = some (.int .i64 fj) ∧ W0.drew.cell? ⟨b, off + k * 3, none⟩ = some (.int .i64 fk) := ⟨c0, c1, c2, x0, x1⟩
  change wpAnyH _ _ _ _ _ _ _ _ W0.drew
  have hbd : Below W0.heap.size W0 W0.drew := (Below.refl _ _).drew
  clear c0 c1 c2 x0 x1
  refine wpAnyH_take (i := 0) (v := ?_) rfl (by kernel_rfl) (by kernel_rfl) (by kernel_rfl) (fun _ _ _ h => h) (Or.inl ⟨by kernel_rfl, ?_⟩) (by assumption) ?_
  rotate_left 1
  · (intro w hSw; obtain ⟨hk1, hk2, hk3, hk4, hk5⟩ := hSw; go_simp <;> with_reducible rfl)
  simp only [Act.put, List.getElem_toArray, List.getElem_cons_zero, List.setIfInBounds_toArray, List.set_cons_zero, List.set_cons_succ]
  refine wpAnyH_take (i := 1) (v := ?_) rfl (by kernel_rfl) (by kernel_rfl) (by kernel_rfl) (fun _ _ _ h => h) (Or.inl ⟨by kernel_rfl, ?_⟩) (by assumption) ?_
  rotate_left 1
  · (intro w hSw; obtain ⟨hk1, hk2, hk3, hk4, hk5⟩ := hSw; go_simp <;> with_reducible rfl)
  simp only [Act.put, List.getElem_toArray, List.getElem_cons_zero, List.getElem_cons_succ, List.setIfInBounds_toArray, List.set_cons_zero, List.set_cons_succ]
  refine wpAnyH_take (i := 3) (v := ?_) rfl (by kernel_rfl) (by kernel_rfl) (by kernel_rfl) (fun _ _ _ h => h) (Or.inl ⟨by kernel_rfl, ?_⟩) (by assumption) ?_
  rotate_left 1
  · (intro w hSw; obtain ⟨hk1, hk2, hk3, hk4, hk5⟩ := hSw; go_simp <;> with_reducible rfl)
  simp only [Act.put, List.getElem_toArray, List.getElem_cons_zero, List.getElem_cons_succ, List.setIfInBounds_toArray, List.set_cons_zero, List.set_cons_succ]
  refine wpAnyH_take (i := 4) (v := ?_) rfl (by kernel_rfl) (by kernel_rfl) (by kernel_rfl) (fun _ _ _ h => h) (Or.inl ⟨by kernel_rfl, ?_⟩) (by assumption) ?_
  rotate_left 1
  · (intro w hSw; obtain ⟨hk1, hk2, hk3, hk4, hk5⟩ := hSw; go_simp <;> with_reducible rfl)
  simp only [Act.put, List.getElem_toArray, List.getElem_cons_zero, List.getElem_cons_succ, List.setIfInBounds_toArray, List.set_cons_zero, List.set_cons_succ]
  refine wpAnyH_take (i := 5) (v := ?_) rfl (by kernel_rfl) (by kernel_rfl) (by kernel_rfl) (fun _ _ _ h => h) (Or.inl ⟨by kernel_rfl, ?_⟩) (by assumption) ?_
  rotate_left 1
  · (intro w hSw; obtain ⟨hk1, hk2, hk3, hk4, hk5⟩ := hSw; go_simp <;> with_reducible rfl)
  simp only [Act.put, List.getElem_toArray, List.getElem_cons_zero, List.getElem_cons_succ, List.setIfInBounds_toArray, List.set_cons_zero, List.set_cons_succ]
  refine wpAnyH_take (i := 6) (v := ?_) rfl (by kernel_rfl) (by kernel_rfl) (by kernel_rfl) (fun _ _ _ h => h) (Or.inl ⟨by kernel_rfl, ?_⟩) (by assumption) ?_
  rotate_left 1
  · (intro w hSw; obtain ⟨hk1, hk2, hk3, hk4, hk5⟩ := hSw; go_simp <;> with_reducible rfl)
  simp only [Act.put, List.getElem_toArray, List.getElem_cons_zero, List.getElem_cons_succ, List.setIfInBounds_toArray, List.set_cons_zero, List.set_cons_succ]
  refine wpAnyH_take (i := 7) (v := ?_) rfl (by kernel_rfl) (by kernel_rfl) (by kernel_rfl) (fun _ _ _ h => h) (Or.inl ⟨by kernel_rfl, ?_⟩) (by assumption) ?_
  rotate_left 1
  · (intro w hSw; obtain ⟨hk1, hk2, hk3, hk4, hk5⟩ := hSw; go_simp <;> with_reducible rfl)
  simp only [Act.put, List.getElem_toArray, List.getElem_cons_zero, List.getElem_cons_succ, List.setIfInBounds_toArray, List.set_cons_zero, List.set_cons_succ]
  refine wpAnyH_take (i := 8) (v := ?_) rfl (by kernel_rfl) (by kernel_rfl) (by kernel_rfl) (fun _ _ _ h => h) (Or.inl ⟨by kernel_rfl, ?_⟩) (by assumption) ?_
  rotate_left 1
  · (intro w hSw; obtain ⟨hk1, hk2, hk3, hk4, hk5⟩ := hSw; go_simp <;> with_reducible rfl)
  simp only [Act.put, List.getElem_toArray, List.getElem_cons_zero, List.getElem_cons_succ, List.setIfInBounds_toArray, List.set_cons_zero, List.set_cons_succ]
  refine wpAnyH_take (i := 9) (v := ?_) rfl (by kernel_rfl) (by kernel_rfl) (by kernel_rfl) (fun _ _ _ h => h) (Or.inl ⟨by kernel_rfl, ?_⟩) (by assumption) ?_
  rotate_left 1
  · (intro w hSw; obtain ⟨hk1, hk2, hk3, hk4, hk5⟩ := hSw; go_simp <;> with_reducible rfl)
  simp only [Act.put, List.getElem_toArray, List.getElem_cons_zero, List.getElem_cons_succ, List.setIfInBounds_toArray, List.set_cons_zero, List.set_cons_succ]
  refine nextH (i := 2) (by kernel_rfl) rfl (fun K hK => ?_)
  go_simp
  refine (HS.out _ hSd.2.2.2.1).mono ?_
  rintro e w2 ⟨rfl, hb2⟩
  have hS2 := five_bel hSd hb2
  have hb02 := bel_tr hbd hbd.size hb2
  clear hSd hbd
  try dsimp only
  refine hK _ _ hS2 ?_
  clear hK K
  refine nextH (i := 10) (by kernel_rfl) rfl (fun K hK => ?_)
  go_simp
  refine (HI.out _).mono ?_
  rintro e w3 ⟨rfl, hb3⟩
  have hS3 := five_bel hS2 hb3
  have hb03 := bel_tr hb02 hb02.size hb3
  clear hS2 hb02
  try dsimp only
  refine hK _ _ hS3 ?_
  clear hK K
  obtain ⟨⟨k0, k1⟩, k2, k3⟩ := hR1 w3 hb03
  have hz3 : p + 1 < w3.heap.size := Nat.lt_of_lt_of_le hz0 hb03.size
  refine nextH (i := 11) (by kernel_rfl) rfl (fun K hK => ?_)
  go_simp
  refine hK _ _ ⟨cell_set2 hS3.1 (by omega), cell_set2 hS3.2.1 (by omega), cell_set2 hS3.2.2.1 (by omega), cell_set2 hS3.2.2.2.1 (by omega), cell_set2 hS3.2.2.2.2 (by omega)⟩ ?_
  clear hK K
  refine wpAnyH_done (by kernel_rfl) ?_ _
  go_wp2
  have hE0 : Blk ((w3.setCell ⟨p + 1, 0, none⟩ (.int .i64 ilo)).setCell ⟨p + 1, 1, none⟩ (.int .i64 ihi)) (p + 1) 51 [.int .i64 ilo, .int .i64 ihi] := ((hR0.bel hb03).set_ 0 _).set_ 1 _
  have hBE : Below p w ((w3.setCell ⟨p + 1, 0, none⟩ (.int .i64 ilo)).setCell ⟨p + 1, 1, none⟩ (.int .i64 ihi)) := ((bel_tr hB0 (by omega) hb03).setCell (by show p ≤ p + 1; omega) _).setCell (by show p ≤ p + 1; omega) _
  generalize (w3.setCell ⟨p + 1, 0, none⟩ (.int .i64 ilo)).setCell ⟨p + 1, 1, none⟩ (.int .i64 ihi) = WE at hE0 hBE ⊢
  have g0 := hE0.cell 0; have g1 := hE0.cell 1; simp only [List.getElem?_cons_zero, List.getElem?_cons_succ] at g0 g1
  exact bodyPost_ret (v := .agg #[.int .i64 ilo, .int .i64 ihi]) (by simp [results, Try.results64, go_sem, g0, g1]; try rfl) rfl ⟨rfl, by rw [hp]; exact hBE⟩
end Go.Proofs.Ytdeehodekilaiaa
