/- Contracts: traces copied, the reference's check of a trace. -/
import Derived.Test.YtdeehodekilaiaaF9
import Derived.Test.YtdeehodekilaiaaF12
import Derived.Test.YtdeehodekilaiaaJ1
import Derived.Deep.Onto
set_option linter.unusedSimpArgs false
set_option linter.unusedVariables false
namespace Go.Proofs.Ytdeehodekilaiaa
open Go.RowKit
set_option maxRecDepth 100000

theorem Try.infoP : (Try.prog.info? 55).map (fun i => (i.zero, i.size, i.bytes)) = some (some (.agg #[.int .i64 0, .int .i64 0, .int .i64 0]), 3, 24) := by kernel_rfl

theorem fewPoints_c (A : Option Addr) (c : Nat) (after width : Int) (l : List PT) (w : World) (hl : l.length ≤ maxLen) :
    Calls Try.prog 22 #[.agg #[.slice A l.length c, .int .i64 after, .int .i64 width]] w fun r w' => r = .returned (.bool (decide (l.length ≤ 10))) ∧ Below w.heap.size w w' := by
  have h63 : l.length ≤ 9223372036854775807 := hl
  obtain ⟨W0, hW0⟩ : ∃ W0, w.alloc (.cells #[.slice A l.length c, .int .i64 after, .int .i64 width] 30) = W0 := ⟨_, rfl⟩
  have hX0 : Blk W0 w.heap.size 30 [.slice A l.length c, .int .i64 after, .int .i64 width] := by rw [← hW0]; exact Blk.new w _ [_, _, _]
  have hB0 : Below w.heap.size w W0 := by rw [← hW0]; exact alloc_bel w _
  have HW := hide hW0
  clear hW0
  have c0 := hX0.cell 0; have c1 := hX0.cell 1; have c2 := hX0.cell 2; simp only [List.getElem?_cons_zero, List.getElem?_cons_succ] at c0 c1 c2
  have z0 := hX0.lt
  have e1 : decide ((l.length : Int) ≤ 10) = decide (l.length ≤ 10) := by simp; omega
  go_enter Try.func22, Try.ntmps22
  go_upto_region 1 with fail
  rw [HW.out]
  go_wp2
  go_ret
  exact ⟨rfl, hB0⟩

set_option maxHeartbeats 1000000 in
theorem copyTraceOwn_c (A : Option Addr) (c : Nat) (after width : Int) (l : List PT) (w : World) (hr : Rd w A (ps l)) (hl : l.length ≤ 1000) :
    Calls Try.prog 20 #[.agg #[.slice A l.length c, .int .i64 after, .int .i64 width]] w fun r w' => (∃ v, r = .returned (.agg #[v, .int .i64 after, .int .i64 width]) ∧ w'.ownsRow w.heap.size 55 3 v l.length (ps l)) ∧ Below w.heap.size w w' := by
  obtain ⟨i0, hi, iz0, iz1, iz2⟩ := info_parts Try.infoP
  obtain ⟨W0, hW0⟩ : ∃ W0, (w.alloc (.cells #[.slice A l.length c, .int .i64 after, .int .i64 width] 30)).alloc (.cells #[.slice none 0 0, .int .i64 0, .int .i64 0] 30) = W0 := ⟨_, rfl⟩
  obtain ⟨p, hp⟩ : ∃ p, w.heap.size = p := ⟨_, rfl⟩
  have hX0 : Blk W0 p 30 [.slice A l.length c, .int .i64 after, .int .i64 width] := by rw [← hW0, ← hp]; exact (two_new w _ _ [_, _, _] [_, _, _]).1
  have hR0 : Blk W0 (p + 1) 30 [.slice none 0 0, .int .i64 0, .int .i64 0] := by rw [← hW0, ← hp]; exact (two_new w _ _ [_, _, _] [_, _, _]).2.1
  have hB0 : Below p w W0 := by rw [← hW0, ← hp]; exact (two_new w _ _ [_, _, _] [_, _, _]).2.2
  have hr0 := hr.bel (by rw [hp]; exact hB0)
  have HW := hide hW0
  have hsz : p ≤ W0.heap.size := by rw [← hW0, ← hp]; simp; omega
  clear hW0 hr
  have c0 := hX0.cell 0; have c1 := hX0.cell 1; have c2 := hX0.cell 2; simp only [List.getElem?_cons_zero, List.getElem?_cons_succ] at c0 c1 c2
  have z0 := hR0.lt
  go_enter Try.func20, Try.ntmps20
  go_upto_region 1 with fail
  rw [HW.out]
  refine wp_region_held (S := fun w' => w'.cell? ⟨p, 0, none⟩ = some (.slice A l.length c) ∧ w'.cell? ⟨p, 1, none⟩ = some (.int .i64 after) ∧ w'.cell? ⟨p, 2, none⟩ = some (.int .i64 width)) (by kernel_rfl) ?_
  have hSd : W0.drew.cell? ⟨p, 0, none⟩ = some (.slice A l.length c) ∧ W0.drew.cell? ⟨p, 1, none⟩ = some (.int .i64 after) ∧ W0.drew.cell? ⟨p, 2, none⟩ = some (.int .i64 width) := ⟨c0, c1, c2⟩
  change wpAnyH _ _ _ _ _ _ _ _ W0.drew
  clear c0 c1 c2
  refine wpAnyH_take (i := 1) (v := ?_) rfl (by kernel_rfl) (by kernel_rfl) (by kernel_rfl) (fun _ _ _ h => h) (Or.inl ⟨by kernel_rfl, ?_⟩) (by assumption) ?_
  rotate_left 1
  · (intro w hSw; obtain ⟨hk1, hk2, hk3⟩ := hSw; go_simp <;> with_reducible rfl)
  simp only [Act.put, List.getElem_toArray, List.getElem_cons_zero, List.getElem_cons_succ, List.setIfInBounds_toArray, List.set_cons_zero, List.set_cons_succ]
  refine wpAnyH_take (i := 2) (v := ?_) rfl (by kernel_rfl) (by kernel_rfl) (by kernel_rfl) (fun _ _ _ h => h) (Or.inl ⟨by kernel_rfl, ?_⟩) (by assumption) ?_
  rotate_left 1
  · (intro w hSw; obtain ⟨hk1, hk2, hk3⟩ := hSw; go_simp <;> with_reducible rfl)
  simp only [Act.put, List.getElem_toArray, List.getElem_cons_zero, List.getElem_cons_succ, List.setIfInBounds_toArray, List.set_cons_zero, List.set_cons_succ]
  refine wpAnyH_take (i := 4) (v := ?_) rfl (by kernel_rfl) (by kernel_rfl) (by kernel_rfl) (fun _ _ _ h => h) (Or.inl ⟨by kernel_rfl, ?_⟩) (by assumption) ?_
  rotate_left 1
  · (intro w hSw; obtain ⟨hk1, hk2, hk3⟩ := hSw; go_simp <;> with_reducible rfl)
  simp only [Act.put, List.getElem_toArray, List.getElem_cons_zero, List.getElem_cons_succ, List.setIfInBounds_toArray, List.set_cons_zero, List.set_cons_succ]
  refine wpAnyH_take (i := 5) (v := ?_) rfl (by kernel_rfl) (by kernel_rfl) (by kernel_rfl) (fun _ _ _ h => h) (Or.inl ⟨by kernel_rfl, ?_⟩) (by assumption) ?_
  rotate_left 1
  · (intro w hSw; obtain ⟨hk1, hk2, hk3⟩ := hSw; go_simp <;> with_reducible rfl)
  simp only [Act.put, List.getElem_toArray, List.getElem_cons_zero, List.getElem_cons_succ, List.setIfInBounds_toArray, List.set_cons_zero, List.set_cons_succ]
  refine wpAnyH_take (i := 6) (v := ?_) rfl (by kernel_rfl) (by kernel_rfl) (by kernel_rfl) (fun _ _ _ h => h) (Or.inl ⟨by kernel_rfl, ?_⟩) (by assumption) ?_
  rotate_left 1
  · (intro w hSw; obtain ⟨hk1, hk2, hk3⟩ := hSw; go_simp <;> with_reducible rfl)
  simp only [Act.put, List.getElem_toArray, List.getElem_cons_zero, List.getElem_cons_succ, List.setIfInBounds_toArray, List.set_cons_zero, List.set_cons_succ]
  refine wpAnyH_take (i := 7) (v := ?_) rfl (by kernel_rfl) (by kernel_rfl) (by kernel_rfl) (fun _ _ _ h => h) (Or.inl ⟨by kernel_rfl, ?_⟩) (by assumption) ?_
  rotate_left 1
  · (intro w hSw; obtain ⟨hk1, hk2, hk3⟩ := hSw; go_simp <;> with_reducible rfl)
  simp only [Act.put, List.getElem_toArray, List.getElem_cons_zero, List.getElem_cons_succ, List.setIfInBounds_toArray, List.set_cons_zero, List.set_cons_succ]
  refine nextH (i := 0) (by kernel_rfl) rfl (fun K hK => ?_)
  go_simp
  obtain ⟨W5, hW5⟩ : ∃ W5, (W0.alloc (.cells #[] 55)).drew = W5 := ⟨_, rfl⟩
  have hb5 : Below W0.heap.size W0 W5 := by rw [← hW5]; exact (alloc_bel _ _).drew
  have hown5 : W5.ownsRow W0.heap.size 55 3 (.slice (some ⟨W0.heap.size, 0, none⟩) 0 0) 0 [] := by rw [← hW5]; exact World.ownsRow_made W0 #[] 0 (Nat.le_refl _) (by unfold maxLen; omega) rfl
  have hX5 := hX0.bel hb5
  have hR5 := hR0.bel hb5
  have hr5 := hr0.bel hb5
  have hS5 : W5.cell? ⟨p, 0, none⟩ = some (.slice A l.length c) ∧ W5.cell? ⟨p, 1, none⟩ = some (.int .i64 after) ∧ W5.cell? ⟨p, 2, none⟩ = some (.int .i64 width) := ⟨hX5.cell 0, hX5.cell 1, hX5.cell 2⟩
  have hs5 : W0.heap.size ≤ W5.heap.size := hb5.size
  rw [hW5]
  clear hW5 hSd
  try dsimp only
  refine hK _ _ hS5 ?_
  clear hK K
  refine nextH (i := 3) (by kernel_rfl) rfl (fun K hK => ?_)
  refine step_append_rd _ (by rfl) _ _ _ (by rfl) W0.heap.size 55 i0 _ 3 24 Try.underlying28 hi iz0 iz1 iz2 rfl (by decide) (.slice (some ⟨W0.heap.size, 0, none⟩) 0 0) 0 [] (by rfl) hown5 A l.length c (ps l) (by rfl) (by simp) hr5 (ps_one l) (by unfold maxLen; omega) (by omega) hs5 ?_
  intro v6 W6 hown6 hg6
  obtain ⟨A6, c6, rfl⟩ := ownsRow_slice hown6
  have hX6 : Blk W6 p 30 [.slice A l.length c, .int .i64 after, .int .i64 width] := (hg6.block p hX5.lt (fun e => by have e' : some p = some W0.heap.size := e; have := Option.some.inj e'; omega)).trans hX5
  have hR6 : Blk W6 (p + 1) 30 [.slice none 0 0, .int .i64 0, .int .i64 0] := (hg6.block (p + 1) hR5.lt (fun e => by have e' : some (p + 1) = some W0.heap.size := e; have := Option.some.inj e'; omega)).trans hR5
  have hS6 : W6.cell? ⟨p, 0, none⟩ = some (.slice A l.length c) ∧ W6.cell? ⟨p, 1, none⟩ = some (.int .i64 after) ∧ W6.cell? ⟨p, 2, none⟩ = some (.int .i64 width) := ⟨hX6.cell 0, hX6.cell 1, hX6.cell 2⟩
  have hB6 : Below p w W6 := (hB0.trans (hb5.mono (by omega))).grown hg6 (by omega) (fun j hj => by have e' : some W0.heap.size = some j := hj; have := Option.some.inj e'; omega)
  simp only [Act.put, List.getElem_toArray, List.getElem_cons_zero, List.getElem_cons_succ, List.setIfInBounds_toArray, List.set_cons_zero, List.set_cons_succ]
  refine hK _ _ hS6 ?_
  clear hK K
  refine nextH (i := 8) (by kernel_rfl) rfl (fun K hK => ?_)
  go_simp
  refine hK _ _ hS6 ?_
  clear hK K
  have r0 := hR6.frozen 0
  have r1 := hR6.frozen 1
  have r2 := hR6.frozen 2
  have r3 := hR6.cell 0
  have r4 := hR6.cell 1
  have r5 := hR6.cell 2
  have r6 := hR6.lt
  simp only [List.getElem?_cons_zero, List.getElem?_cons_succ] at r3 r4 r5
  refine nextH (i := 9) (by kernel_rfl) rfl (fun K hK => ?_)
  go_simp
  have hBE : Below p w (((W6.setCell ⟨p + 1, 0, none⟩ (.slice A6 l.length c6)).setCell ⟨p + 1, 1, none⟩ (.int .i64 after)).setCell ⟨p + 1, 2, none⟩ (.int .i64 width)) := ((hB6.setCell (by show p ≤ p + 1; omega) _).setCell (by show p ≤ p + 1; omega) _).setCell (by show p ≤ p + 1; omega) _
  have hRE := ((hR6.set_ 0 (.slice A6 l.length c6)).set_ 1 (.int .i64 after)).set_ 2 (.int .i64 width)
  have hXE := ((hX6.far (p := ⟨p + 1, 0, none⟩) (by show p ≠ p + 1; omega) (.slice A6 l.length c6)).far (p := ⟨p + 1, 1, none⟩) (by show p ≠ p + 1; omega) (.int .i64 after)).far (p := ⟨p + 1, 2, none⟩) (by show p ≠ p + 1; omega) (.int .i64 width)
  have hrE := own_far (own_far (own_far hown6 (p := ⟨p + 1, 0, none⟩) (by show p + 1 < W0.heap.size; omega) (.slice A6 l.length c6)) (p := ⟨p + 1, 1, none⟩) (by show p + 1 < W0.heap.size; omega) (.int .i64 after)) (p := ⟨p + 1, 2, none⟩) (by show p + 1 < W0.heap.size; omega) (.int .i64 width)
  generalize ((W6.setCell ⟨p + 1, 0, none⟩ (.slice A6 l.length c6)).setCell ⟨p + 1, 1, none⟩ (.int .i64 after)).setCell ⟨p + 1, 2, none⟩ (.int .i64 width) = WE at hBE hRE hXE hrE ⊢
  refine hK _ _ ⟨hXE.cell 0, hXE.cell 1, hXE.cell 2⟩ ?_
  clear hK K
  refine wpAnyH_done (by kernel_rfl) ?_ _
  have v0 := hRE.cell 0
  have v1 := hRE.cell 1
  have v2 := hRE.cell 2
  simp only [List.set_cons_zero, List.set_cons_succ, List.getElem?_cons_zero, List.getElem?_cons_succ] at v0 v1 v2
  go_wp2
  exact bodyPost_ret (v := .agg #[.slice A6 l.length c6, .int .i64 after, .int .i64 width]) (by simp [results, Try.results20, go_sem, v0, v1, v2]; try rfl) rfl ⟨⟨_, rfl, by rw [hp]; exact World.ownsRow.mono (by simpa using hrE) hsz⟩, by rw [hp]; exact hBE⟩
theorem copyTrace_c (A : Option Addr) (c : Nat) (after width : Int) (l : List PT) (w : World) (hr : Rd w A (ps l)) (hl : l.length ≤ 1000) :
    Calls Try.prog 20 #[.agg #[.slice A l.length c, .int .i64 after, .int .i64 width]] w fun r w' => (∃ A' c', r = .returned (.agg #[.slice A' l.length c', .int .i64 after, .int .i64 width]) ∧ Rd w' A' (ps l)) ∧ Below w.heap.size w w' :=
  (copyTraceOwn_c A c after width l w hr hl).mono fun r w' ⟨⟨v, hv, ho⟩, hb⟩ => by
    obtain ⟨A', c', rfl⟩ := ownsRow_slice ho
    exact ⟨⟨A', c', hv, Rd.of_own ho⟩, hb⟩

theorem pointE_first {l : List PT} {k : Nat} {f lo hi : Int} (h : freqE f ≠ 0) : pointE l k (f, lo, hi) = 2 := by
  have e : freqE f = 2 := by unfold freqE errIf at h ⊢; split at h <;> simp_all
  unfold pointE; rw [e]; rfl
theorem pointE_range {l : List PT} {k : Nat} {f lo hi : Int} (h : freqE f = 0) (h1 : (outB lo 0 20000 || outB hi 0 20000) = true) : pointE l k (f, lo, hi) = 2 := by
  unfold pointE pixE; simp [firstE, h, h1, errIf]
theorem pointE_order {l : List PT} {k : Nat} {f lo hi : Int} (h : freqE f = 0) (h1 : (outB lo 0 20000 || outB hi 0 20000) = false) (h2 : hi < lo) : pointE l k (f, lo, hi) = 9 := by
  unfold pointE pixE; simp [firstE, h, h1, errIf, h2]
theorem pointE_prev {l : List PT} {k : Nat} {f lo hi : Int} (h : freqE f = 0) (h1 : (outB lo 0 20000 || outB hi 0 20000) = false) (h2 : ¬ hi < lo) (hk : 0 < k) (h3 : f ≤ (l.getD (k - 1) P0).1) : pointE l k (f, lo, hi) = 9 := by
  have e : (decide (0 < k) && decide (f ≤ (l.getD (k - 1) P0).1)) = true := by rw [decide_eq_true hk, decide_eq_true h3]; rfl
  have p : pixE lo hi = 0 := by simp [pixE, firstE, h1, errIf, h2]
  show firstE [freqE f, pixE lo hi, errIf (decide (0 < k) && decide (f ≤ (l.getD (k - 1) P0).1)) 9] = 9
  rw [h, p, e]; rfl
theorem pointE_ok {l : List PT} {k : Nat} {f lo hi : Int} (h : freqE f = 0) (h1 : (outB lo 0 20000 || outB hi 0 20000) = false) (h2 : ¬ hi < lo) (h3 : k = 0 ∨ ¬ f ≤ (l.getD (k - 1) P0).1) : pointE l k (f, lo, hi) = 0 := by
  have e : (decide (0 < k) && decide (f ≤ (l.getD (k - 1) P0).1)) = false := by
    rcases h3 with h3 | h3
    · rw [decide_eq_false (by omega)]; rfl
    · rw [decide_eq_false h3, Bool.and_false]
  have p : pixE lo hi = 0 := by simp [pixE, firstE, h1, errIf, h2]
  show firstE [freqE f, pixE lo hi, errIf (decide (0 < k) && decide (f ≤ (l.getD (k - 1) P0).1)) 9] = 0
  rw [h, p, e]; rfl
theorem trE_head {l : List PT} {after width : Int} (h : trHead l.length after width ≠ 0) : trE l after width = (0, trHead l.length after width) := by unfold trE; rw [if_neg h]
theorem trE_body {l : List PT} {after width : Int} (h : trHead l.length after width = 0) : trE l after width = firstBadFrom (pointE l) 0 l := by unfold trE; rw [if_pos h]
set_option maxHeartbeats 2000000 in
theorem refCheckTrace_c (A : Option Addr) (c : Nat) (after width : Int) (l : List PT) (w : World) (hr : Rd w A (ps l)) (hl : l.length ≤ 1000) :
    Calls Try.prog 46 #[.agg #[.slice A l.length c, .int .i64 after, .int .i64 width]] w fun r w' => r = .returned (.tuple #[.int .i64 (trE l after width).1, .int .i64 (trE l after width).2]) ∧ Below w.heap.size w w' := by
  obtain ⟨W0, hW0⟩ : ∃ W0, w.alloc (.cells #[.slice A l.length c, .int .i64 after, .int .i64 width] 30) = W0 := ⟨_, rfl⟩
  have hX0 : Blk W0 w.heap.size 30 [.slice A l.length c, .int .i64 after, .int .i64 width] := by rw [← hW0]; exact Blk.new w _ [_, _, _]
  have hB0 : Below w.heap.size w W0 := by rw [← hW0]; exact alloc_bel w _
  have HW := hide hW0
  clear hW0
  have c0 := hX0.cell 0; have c1 := hX0.cell 1; have c2 := hX0.cell 2; simp only [List.getElem?_cons_zero, List.getElem?_cons_succ] at c0 c1 c2
  have z0 := hX0.lt
  have hr0 := hr.bel hB0
  have HB1 := hide (fun W => within_c width 0 500 W)
  have HB2 := hide (fun W => within_c after 0 ((l.length : Int) - 1) W)
  by_cases n0 : l.length = 0
  · have e1 : ((l.length : Int) == 0) = true := by simp; exact List.eq_nil_of_length_eq_zero n0
    have HR : Hid (trE l after width = (0, 10)) := by
      have h : trHead l.length after width = 10 := by simp [trHead, firstE, errIf, n0]
      show _ = _; rw [trE_head (by rw [h]; decide), h]
    clear n0
    go_enter Try.func46, Try.ntmps46
    go_upto_region 1 with fail
    rw [HW.out]
    go_wp2_with (first
      | (go_at_call 15; with_reducible refine (HB1.out _).mono ?_; rintro e_ w_ ⟨rfl, rfl⟩)
      | (go_at_call 15; with_reducible refine (HB2.out _).mono ?_; rintro e_ w_ ⟨rfl, rfl⟩))
    go_ret2
    exact ⟨by rw [HR.out]; rfl, hB0⟩
  · have e1 : ((l.length : Int) == 0) = false := by simp; rintro rfl; exact n0 rfl
    by_cases n1 : 8 < l.length
    · have e2 : decide (8 < (l.length : Int)) = true := by simp; omega
      have HR : Hid (trE l after width = (0, 8)) := by
        have h : trHead l.length after width = 8 := by unfold trHead; rw [e1, e2]; rfl
        show _ = _; rw [trE_head (by rw [h]; decide), h]
      clear n0
      go_enter Try.func46, Try.ntmps46
      go_upto_region 1 with fail
      rw [HW.out]
      go_wp2_with (first
        | (go_at_call 15; with_reducible refine (HB1.out _).mono ?_; rintro e_ w_ ⟨rfl, rfl⟩)
        | (go_at_call 15; with_reducible refine (HB2.out _).mono ?_; rintro e_ w_ ⟨rfl, rfl⟩))
      go_ret2
      exact ⟨by rw [HR.out]; rfl, hB0⟩
    · have e2 : decide (8 < (l.length : Int)) = false := by simp; omega
      cases h1 : outB width 0 500
      case true =>
        have HR : Hid (trE l after width = (0, 2)) := by
          have h : trHead l.length after width = 2 := by unfold trHead; rw [e1, e2, h1]; rfl
          show _ = _; rw [trE_head (by rw [h]; decide), h]
        rw [h1] at HB1
        clear n0 h1
        go_enter Try.func46, Try.ntmps46
        go_upto_region 1 with fail
        rw [HW.out]
        go_wp2_with (first
          | (go_at_call 15; with_reducible refine (HB1.out _).mono ?_; rintro e_ w_ ⟨rfl, rfl⟩)
          | (go_at_call 15; with_reducible refine (HB2.out _).mono ?_; rintro e_ w_ ⟨rfl, rfl⟩))
        go_ret2
        exact ⟨by rw [HR.out]; rfl, hB0⟩
      case false =>
        cases h2 : outB after 0 ((l.length : Int) - 1)
        case true =>
          have HR : Hid (trE l after width = (0, 6)) := by
            have h : trHead l.length after width = 6 := by unfold trHead; rw [e1, e2, h1, h2]; rfl
            show _ = _; rw [trE_head (by rw [h]; decide), h]
          rw [h1] at HB1
          rw [h2] at HB2
          clear n0 h1 h2
          go_enter Try.func46, Try.ntmps46
          go_upto_region 1 with fail
          rw [HW.out]
          go_wp2_with (first
            | (go_at_call 15; with_reducible refine (HB1.out _).mono ?_; rintro e_ w_ ⟨rfl, rfl⟩)
            | (go_at_call 15; with_reducible refine (HB2.out _).mono ?_; rintro e_ w_ ⟨rfl, rfl⟩))
          go_ret2
          exact ⟨by rw [HR.out]; rfl, hB0⟩
        case false =>
          have HR : Hid (trE l after width = firstBadFrom (pointE l) 0 l) := by
            have h : trHead l.length after width = 0 := by unfold trHead; rw [e1, e2, h1, h2]; rfl
            exact trE_body h
          rw [h1] at HB1
          rw [h2] at HB2
          clear n0 h1 h2
          go_enter Try.func46, Try.ntmps46
          go_upto_region 1 with fail
          rw [HW.out]
          go_wp2_with (first
            | (go_at_call 15; with_reducible refine (HB1.out _).mono ?_; rintro e_ w_ ⟨rfl, rfl⟩)
            | (go_at_call 15; with_reducible refine (HB2.out _).mono ?_; rintro e_ w_ ⟨rfl, rfl⟩))
          clear c0 c1 c2
          go_loopw [4] (fun i wr => ∃ k : Nat, k ≤ l.length ∧ i = .int .i64 k ∧ Below W0.heap.size W0 wr ∧ Hid (∀ j (h : j < l.length), j < k → pointE l j l[j] = 0)) (fun i _ => l.length - (intOf i).toNat)
          case atStart => exact ⟨0, Nat.zero_le _, rfl, Below.refl _ _, fun _ _ h => by omega⟩
          case round =>
            obtain ⟨k, hk, rfl, hb, h0⟩ := hrel
            have hXr := hX0.bel hb
            have hrr := hr0.bel hb
            have hBr := tr hB0 hb hB0.size
            have zw := hXr.lt
            have c0 := hXr.cell 0; have c1 := hXr.cell 1; have c2 := hXr.cell 2; simp only [List.getElem?_cons_zero, List.getElem?_cons_succ] at c0 c1 c2
            by_cases hlt : k < l.length
            · have HS := hide (fun (e : Int) (he : e ≠ 0) (hz : pointE l k l[k] = e) => show firstBadFrom (pointE l) 0 l = ((k : Int), e) by
                have := firstBadFrom_some (pointE l) l 0 k hlt (fun i hi => by simpa using h0.out i (by omega) hi) (by simp only [Nat.zero_add]; rw [hz]; exact he)
                rw [this]; simp only [Nat.zero_add, hz])
              have HN := hide (fun (hz : pointE l k l[k] = 0) j (h : j < l.length) (hj : j < k + 1) => show pointE l j l[j] = 0 by
                by_cases e : j = k
                · subst e; exact hz
                · exact h0.out j h (by omega))
              obtain ⟨b, off, rfl, hblt, hc0, hc1, hc2⟩ := hrr.p_at hlt
              have HPV := hide (fun (h : 0 < k) => hrr.p_in (show k - 1 < l.length by omega))
              generalize l[k] = g at hc0 hc1 hc2 HS HN
              obtain ⟨f, lo, hi⟩ := g
              dsimp only at hc0 hc1 hc2
              have W1 := hide (fun W => within_c lo 0 20000 W)
              have W2 := hide (fun W => within_c hi 0 20000 W)
              have HF := hide (fun W => frequencyErr_c f W)
              by_cases g1 : freqE f = 0
              · rw [g1] at HF
                cases g2 : outB lo 0 20000
                case true =>
                  have HZ := hide (HS.out 2 (by decide) (pointE_range g1 (by simp [g2])))
                  rw [g2] at W1
                  clear HS HN g1 g2 HPV
                  go_wp2_with (first
                    | (go_at_call 40; refine (HF.out _).mono ?_; rintro e_ w_ ⟨rfl, rfl⟩)
                    | (go_at_call 15; with_reducible refine (W1.out _).mono ?_; rintro e_ w_ ⟨rfl, rfl⟩)
                    | (go_at_call 15; with_reducible refine (W2.out _).mono ?_; rintro e_ w_ ⟨rfl, rfl⟩))
                  go_ret2
                  exact ⟨by rw [HR.out, HZ.out]; rfl, bel_alloc hBr (by have := hBr.size; omega) _⟩
                case false =>
                  cases g3 : outB hi 0 20000
                  case true =>
                    have HZ := hide (HS.out 2 (by decide) (pointE_range g1 (by simp [g3])))
                    rw [g2] at W1
                    rw [g3] at W2
                    clear HS HN g1 g2 g3 HPV
                    go_wp2_with (first
                      | (go_at_call 40; refine (HF.out _).mono ?_; rintro e_ w_ ⟨rfl, rfl⟩)
                      | (go_at_call 15; with_reducible refine (W1.out _).mono ?_; rintro e_ w_ ⟨rfl, rfl⟩)
                      | (go_at_call 15; with_reducible refine (W2.out _).mono ?_; rintro e_ w_ ⟨rfl, rfl⟩))
                    go_ret2
                    exact ⟨by rw [HR.out, HZ.out]; rfl, bel_alloc hBr (by have := hBr.size; omega) _⟩
                  case false =>
                    have g4 : (outB lo 0 20000 || outB hi 0 20000) = false := by simp [g2, g3]
                    rw [g2] at W1
                    rw [g3] at W2
                    clear g2 g3
                    by_cases g5 : hi < lo
                    · have HZ := hide (HS.out 9 (by decide) (pointE_order g1 g4 g5))
                      have e5 : decide (hi < lo) = true := decide_eq_true g5
                      clear HS HN g1 g4 HPV
                      go_upto_region 15 with (first
                        | (go_at_call 40; refine (HF.out _).mono ?_; rintro e_ w_ ⟨rfl, rfl⟩)
                        | (go_at_call 15; with_reducible refine (W1.out _).mono ?_; rintro e_ w_ ⟨rfl, rfl⟩)
                        | (go_at_call 15; with_reducible refine (W2.out _).mono ?_; rintro e_ w_ ⟨rfl, rfl⟩))
                      obtain ⟨W3, hW3⟩ : ∃ W3, wr.alloc (.cells #[.int .i64 f, .int .i64 lo, .int .i64 hi] 55) = W3 := ⟨_, rfl⟩
                      have hb3 : Below wr.heap.size wr W3 := by rw [← hW3]; exact alloc_bel _ _
                      have hP3 : Blk W3 wr.heap.size 55 [.int .i64 f, .int .i64 lo, .int .i64 hi] := by rw [← hW3]; exact Blk.new wr _ [_, _, _]
                      have hX3 := hXr.bel hb3
                      have hr3 := hrr.bel hb3
                      have hB3 := tr hBr hb3 hBr.size
                      have hbW := tr hb hb3 hb.size
                      rw [hW3]
                      clear hW3 hXr hrr c0 c1 c2
                      have c0 := hX3.cell 0; have c1 := hX3.cell 1; have c2 := hX3.cell 2; simp only [List.getElem?_cons_zero, List.getElem?_cons_succ] at c0 c1 c2
                      have g0 := hP3.cell 0; have g1 := hP3.cell 1; have g2 := hP3.cell 2; simp only [List.getElem?_cons_zero, List.getElem?_cons_succ] at g0 g1 g2
                      have z3 := hX3.lt
                      have z4 := hP3.lt
                      go_quiet (fail)
                      go_wp2
                      go_ret2
                      exact ⟨by rw [HR.out, HZ.out]; rfl, below_drewN hB3 _⟩
                    · have e5 : decide (hi < lo) = false := decide_eq_false g5
                      rcases Nat.eq_zero_or_pos k with g6 | g6
                      · have HZ := hide (HN.out (pointE_ok g1 g4 g5 (.inl g6)))
                        have e6 : ¬ 0 < k := by omega
                        clear HS HN g1 g4 HPV g6 g5
                        go_upto_region 15 with (first
                          | (go_at_call 40; refine (HF.out _).mono ?_; rintro e_ w_ ⟨rfl, rfl⟩)
                          | (go_at_call 15; with_reducible refine (W1.out _).mono ?_; rintro e_ w_ ⟨rfl, rfl⟩)
                          | (go_at_call 15; with_reducible refine (W2.out _).mono ?_; rintro e_ w_ ⟨rfl, rfl⟩))
                        obtain ⟨W3, hW3⟩ : ∃ W3, wr.alloc (.cells #[.int .i64 f, .int .i64 lo, .int .i64 hi] 55) = W3 := ⟨_, rfl⟩
                        have hb3 : Below wr.heap.size wr W3 := by rw [← hW3]; exact alloc_bel _ _
                        have hP3 : Blk W3 wr.heap.size 55 [.int .i64 f, .int .i64 lo, .int .i64 hi] := by rw [← hW3]; exact Blk.new wr _ [_, _, _]
                        have hX3 := hXr.bel hb3
                        have hr3 := hrr.bel hb3
                        have hB3 := tr hBr hb3 hBr.size
                        have hbW := tr hb hb3 hb.size
                        rw [hW3]
                        clear hW3 hXr hrr c0 c1 c2
                        have c0 := hX3.cell 0; have c1 := hX3.cell 1; have c2 := hX3.cell 2; simp only [List.getElem?_cons_zero, List.getElem?_cons_succ] at c0 c1 c2
                        have g0 := hP3.cell 0; have g1 := hP3.cell 1; have g2 := hP3.cell 2; simp only [List.getElem?_cons_zero, List.getElem?_cons_succ] at g0 g1 g2
                        have z3 := hX3.lt
                        have z4 := hP3.lt
                        go_quiet (fail)
                        go_wp2
                        go_roundw
                        case rel => exact ⟨k + 1, by omega, by go_num, below_drewN hbW _, HZ.out⟩
                        case measure => simp [intOf]; omega
                      · have HPQ := HPV.out g6
                        have hk1 : k - 1 < l.length := by omega
                        obtain ⟨hbl2, pv, _, _⟩ := HPQ
                        have hgd : (l.getD (k - 1) P0).1 = l[k - 1].1 := by rw [getD_at hk1]
                        have ek : ((k : Int) - 1).toNat = k - 1 := by omega
                        by_cases g7 : f ≤ l[k - 1].1
                        · have HZ := hide (HS.out 9 (by decide) (pointE_prev g1 g4 g5 g6 (by rw [hgd]; exact g7)))
                          have e7 : decide (f ≤ l[k - 1].1) = true := decide_eq_true g7
                          clear HS HN g1 g4 HPV hgd g7 g5
                          generalize l[k - 1].1 = fp at pv e7
                          go_upto_region 15 with (first
                            | (go_at_call 40; refine (HF.out _).mono ?_; rintro e_ w_ ⟨rfl, rfl⟩)
                            | (go_at_call 15; with_reducible refine (W1.out _).mono ?_; rintro e_ w_ ⟨rfl, rfl⟩)
                            | (go_at_call 15; with_reducible refine (W2.out _).mono ?_; rintro e_ w_ ⟨rfl, rfl⟩))
                          obtain ⟨W3, hW3⟩ : ∃ W3, wr.alloc (.cells #[.int .i64 f, .int .i64 lo, .int .i64 hi] 55) = W3 := ⟨_, rfl⟩
                          have hb3 : Below wr.heap.size wr W3 := by rw [← hW3]; exact alloc_bel _ _
                          have hP3 : Blk W3 wr.heap.size 55 [.int .i64 f, .int .i64 lo, .int .i64 hi] := by rw [← hW3]; exact Blk.new wr _ [_, _, _]
                          have hX3 := hXr.bel hb3
                          have hr3 := hrr.bel hb3
                          have hB3 := tr hBr hb3 hBr.size
                          have hbW := tr hb hb3 hb.size
                          rw [hW3]
                          clear hW3 hXr hrr c0 c1 c2
                          have c0 := hX3.cell 0; have c1 := hX3.cell 1; have c2 := hX3.cell 2; simp only [List.getElem?_cons_zero, List.getElem?_cons_succ] at c0 c1 c2
                          have g0 := hP3.cell 0; have g1 := hP3.cell 1; have g2 := hP3.cell 2; simp only [List.getElem?_cons_zero, List.getElem?_cons_succ] at g0 g1 g2
                          have z3 := hX3.lt
                          have z4 := hP3.lt
                          have pv3 := (hb3.cell (p := ⟨b, off + (k - 1) * 3, none⟩) hblt).trans pv
                          go_quiet (fail)
                          go_wp2
                          go_ret2
                          exact ⟨by rw [HR.out, HZ.out]; rfl, below_drewN hB3 _⟩
                        · have HZ := hide (HN.out (pointE_ok g1 g4 g5 (.inr (by rw [hgd]; exact g7))))
                          have e7 : decide (f ≤ l[k - 1].1) = false := decide_eq_false g7
                          clear HS HN g1 g4 HPV hgd g7 g5
                          generalize l[k - 1].1 = fp at pv e7
                          go_upto_region 15 with (first
                            | (go_at_call 40; refine (HF.out _).mono ?_; rintro e_ w_ ⟨rfl, rfl⟩)
                            | (go_at_call 15; with_reducible refine (W1.out _).mono ?_; rintro e_ w_ ⟨rfl, rfl⟩)
                            | (go_at_call 15; with_reducible refine (W2.out _).mono ?_; rintro e_ w_ ⟨rfl, rfl⟩))
                          obtain ⟨W3, hW3⟩ : ∃ W3, wr.alloc (.cells #[.int .i64 f, .int .i64 lo, .int .i64 hi] 55) = W3 := ⟨_, rfl⟩
                          have hb3 : Below wr.heap.size wr W3 := by rw [← hW3]; exact alloc_bel _ _
                          have hP3 : Blk W3 wr.heap.size 55 [.int .i64 f, .int .i64 lo, .int .i64 hi] := by rw [← hW3]; exact Blk.new wr _ [_, _, _]
                          have hX3 := hXr.bel hb3
                          have hr3 := hrr.bel hb3
                          have hB3 := tr hBr hb3 hBr.size
                          have hbW := tr hb hb3 hb.size
                          rw [hW3]
                          clear hW3 hXr hrr c0 c1 c2
                          have c0 := hX3.cell 0; have c1 := hX3.cell 1; have c2 := hX3.cell 2; simp only [List.getElem?_cons_zero, List.getElem?_cons_succ] at c0 c1 c2
                          have g0 := hP3.cell 0; have g1 := hP3.cell 1; have g2 := hP3.cell 2; simp only [List.getElem?_cons_zero, List.getElem?_cons_succ] at g0 g1 g2
                          have z3 := hX3.lt
                          have z4 := hP3.lt
                          have pv3 := (hb3.cell (p := ⟨b, off + (k - 1) * 3, none⟩) hblt).trans pv
                          go_quiet (fail)
                          go_wp2
                          go_roundw
                          case rel => exact ⟨k + 1, by omega, by go_num, below_drewN hbW _, HZ.out⟩
                          case measure => simp [intOf]; omega
              · have HZ := hide (HS.out 2 (by decide) (pointE_first g1))
                have e1 : (freqE f != 0) = true := by simpa using g1
                generalize freqE f = EF at HF e1
                clear HS HN g1 HPV
                go_wp2_with (first
                  | (go_at_call 40; refine (HF.out _).mono ?_; rintro e_ w_ ⟨rfl, rfl⟩)
                  | (go_at_call 15; with_reducible refine (W1.out _).mono ?_; rintro e_ w_ ⟨rfl, rfl⟩)
                  | (go_at_call 15; with_reducible refine (W2.out _).mono ?_; rintro e_ w_ ⟨rfl, rfl⟩))
                go_ret2
                exact ⟨by rw [HR.out, HZ.out]; rfl, bel_alloc hBr (by have := hBr.size; omega) _⟩
            · have HZ : Hid (firstBadFrom (pointE l) 0 l = (0, 0)) := firstBadFrom_none _ l 0 fun i hi => by simpa using h0.out i hi (by omega)
              go_wp2
              go_ret2
              exact ⟨by rw [HR.out, HZ.out]; rfl, hBr⟩
end Go.Proofs.Ytdeehodekilaiaa
