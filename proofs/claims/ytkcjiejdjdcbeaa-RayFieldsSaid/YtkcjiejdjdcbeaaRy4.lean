/- Contracts: fractions in lowest terms, indexes. -/
import Derived.Test.YtkcjiejdjdcbeaaRy3
set_option linter.unusedSimpArgs false
set_option linter.unusedVariables false
set_option linter.unusedSimpArgs false
set_option linter.unusedVariables false
namespace Go.Proofs.Ytkcjiejdjdcbeaa
open Go.RowKit
set_option maxRecDepth 100000


theorem blk_two {w : World} {p : Nat} {t : TypeId} {a b : Value} (h : Blk w p t [a, b]) : w.cell? ⟨p, 0, none⟩ = some a ∧ w.cell? ⟨p, 1, none⟩ = some b ∧ w.frozen? ⟨p, 0, none⟩ = false ∧ w.frozen? ⟨p, 1, none⟩ = false := ⟨h.cell 0, h.cell 1, h.frozen 0, h.frozen 1⟩
theorem reduced_c (n d : Int) (w : World) (h1 : 1 ≤ d) (h2 : d ≤ 4000000000000000000) (h3 : -4000000000000000000 ≤ n) (h4 : n ≤ 4000000000000000000) :
    Calls Try.prog 122 #[.int .i64 n, .int .i64 d] w fun r w' => r = .returned (.agg #[.int .i64 (redQ n d).1, .int .i64 (redQ n d).2]) ∧ Below w.heap.size w w' := by
  have HC := hide (fun W => commonDivisor_c n d W h1 (by omega) (by omega) (by omega))
  have g1 := gcd_pos n d (by omega)
  have g2 := gcd_le n d (by omega)
  have q1 := tdiv_gcd_left n d (by omega)
  have q2 := tdiv_gcd_right n d (by omega)
  have hd2 := redQ_den n d (by omega)
  have hd1 := redQ_num n d (by omega)
  rw [show n / (Int.gcd n d : Int) = (redQ n d).1 from rfl] at q1
  rw [show d / (Int.gcd n d : Int) = (redQ n d).2 from rfl] at q2
  generalize (redQ n d).1 = a at q1 hd1 ⊢
  generalize (redQ n d).2 = b at q2 hd2 ⊢
  generalize (Int.gcd n d : Int) = g at HC g1 g2 q1 q2
  have ha : -4000000000000000000 ≤ a ∧ a ≤ 4000000000000000000 := by omega
  have e1 : (g == 0) = false := by simp; omega
  have e2 : (g == -1) = false := by simp; omega
  have e3 : ¬ g = 0 := by omega
  have e4 : ¬ g = -1 := by omega
  have wa : IntKind.i64.wrap a = a := by simp (disch := omega) only [IntWalk.i64_in]
  have wb : IntKind.i64.wrap b = b := by simp (disch := omega) only [IntWalk.i64_in]
  obtain ⟨p, hp⟩ : ∃ p, w.heap.size = p := ⟨_, rfl⟩
  obtain ⟨W, hW⟩ : ∃ W, w.alloc (.cells #[.int .i64 0, .int .i64 0] 26) = W := ⟨_, rfl⟩
  have hB0 : Below p w W := by rw [← hW, ← hp]; exact alloc_bel _ _
  have hX : Blk W p 26 [.int .i64 0, .int .i64 0] := by rw [← hW, ← hp]; exact Blk.new w _ [_, _]
  have hsz : p < W.heap.size := hX.lt
  have HW := hide hW
  clear hW hd1
  go_enter Try.func122, Try.ntmps122
  go_upto_region 1 with fail
  rw [HW.out]
  go_upto_region 2 with (go_at_call 152; refine (HC.out _).mono ?_; rintro e_ w1 ⟨rfl, hb1⟩)
  have hX1 := hX.bel hb1
  have hB1 : Below p w w1 := bel_tr hB0 (by omega) hb1
  have x0 : w1.cell? ⟨p, 0, none⟩ = some (.int .i64 0) := hX1.cell 0
  have x1 : w1.cell? ⟨p, 1, none⟩ = some (.int .i64 0) := hX1.cell 1
  have f0 : w1.frozen? ⟨p, 0, none⟩ = false := hX1.frozen 0
  have f1 : w1.frozen? ⟨p, 1, none⟩ = false := hX1.frozen 1
  have hSd : (True ∧ True) := ⟨trivial, trivial⟩
  refine wp_region_held (S := fun _ => (True ∧ True)) (by kernel_rfl) ?_
  change wpAnyH _ _ _ _ _ _ _ _ w1.drew
  refine wpAnyH_take (i := 0) (v := ?_) rfl (by kernel_rfl) (by kernel_rfl) (by kernel_rfl) (fun _ _ _ h => h) (Or.inl ⟨by kernel_rfl, ?_⟩) (by assumption) ?_
  rotate_left 1
  · (intro w hSw; obtain ⟨hk1, hk2⟩ := hSw; go_simp <;> with_reducible rfl)
  simp only [Act.put, List.getElem_toArray, List.getElem_cons_zero, List.setIfInBounds_toArray, List.set_cons_zero, List.set_cons_succ]
  refine wpAnyH_take (i := 1) (v := ?_) rfl (by kernel_rfl) (by kernel_rfl) (by kernel_rfl) (fun _ _ _ h => h) (Or.inl ⟨by kernel_rfl, ?_⟩) (by assumption) ?_
  rotate_left 1
  · (intro w hSw; obtain ⟨hk1, hk2⟩ := hSw; go_simp <;> with_reducible rfl)
  simp only [Act.put, List.getElem_toArray, List.getElem_cons_zero, List.getElem_cons_succ, List.setIfInBounds_toArray, List.set_cons_zero, List.set_cons_succ]
  refine wpAnyH_take (i := 2) (v := ?_) rfl (by kernel_rfl) (by kernel_rfl) (by kernel_rfl) (fun _ _ _ h => h) (Or.inl ⟨by kernel_rfl, ?_⟩) (by assumption) ?_
  rotate_left 1
  · (intro w hSw; obtain ⟨hk1, hk2⟩ := hSw; go_simp <;> with_reducible rfl)
  simp only [Act.put, List.getElem_toArray, List.getElem_cons_zero, List.getElem_cons_succ, List.setIfInBounds_toArray, List.set_cons_zero, List.set_cons_succ]
  refine wpAnyH_take (i := 3) (v := ?_) rfl (by kernel_rfl) (by kernel_rfl) (by kernel_rfl) (fun _ _ _ h => h) (Or.inl ⟨by kernel_rfl, ?_⟩) (by assumption) ?_
  rotate_left 1
  · (intro w hSw; obtain ⟨hk1, hk2⟩ := hSw; go_simp <;> with_reducible rfl)
  simp only [Act.put, List.getElem_toArray, List.getElem_cons_zero, List.getElem_cons_succ, List.setIfInBounds_toArray, List.set_cons_zero, List.set_cons_succ]
  refine wpAnyH_take (i := 4) (v := ?_) rfl (by kernel_rfl) (by kernel_rfl) (by kernel_rfl) (fun _ _ _ h => h) (Or.inl ⟨by kernel_rfl, ?_⟩) (by assumption) ?_
  rotate_left 1
  · (intro w hSw; obtain ⟨hk1, hk2⟩ := hSw; go_simp <;> with_reducible rfl)
  simp only [Act.put, List.getElem_toArray, List.getElem_cons_zero, List.getElem_cons_succ, List.setIfInBounds_toArray, List.set_cons_zero, List.set_cons_succ]
  refine wpAnyH_take (i := 5) (v := ?_) rfl (by kernel_rfl) (by kernel_rfl) (by kernel_rfl) (fun _ _ _ h => h) (Or.inl ⟨by kernel_rfl, ?_⟩) (by assumption) ?_
  rotate_left 1
  · (intro w hSw; obtain ⟨hk1, hk2⟩ := hSw; go_simp <;> with_reducible rfl)
  simp only [Act.put, List.getElem_toArray, List.getElem_cons_zero, List.getElem_cons_succ, List.setIfInBounds_toArray, List.set_cons_zero, List.set_cons_succ]
  refine wpAnyH_take (i := 6) (v := ?_) rfl (by kernel_rfl) (by kernel_rfl) (by kernel_rfl) (fun _ _ _ h => h) (Or.inl ⟨by kernel_rfl, ?_⟩) (by assumption) ?_
  rotate_left 1
  · (intro w hSw; obtain ⟨hk1, hk2⟩ := hSw; go_simp <;> with_reducible rfl)
  simp only [Act.put, List.getElem_toArray, List.getElem_cons_zero, List.getElem_cons_succ, List.setIfInBounds_toArray, List.set_cons_zero, List.set_cons_succ]
  refine nextH (i := 7) (by kernel_rfl) rfl (fun K hK => ?_)
  go_simp
  obtain ⟨WE, hWE⟩ : ∃ WE, ((w1.setCell ⟨p, 0, none⟩ (.int .i64 a)).setCell ⟨p, 1, none⟩ (.int .i64 b)).drew = WE := ⟨_, rfl⟩
  rw [hWE]
  have hE : Blk WE p 26 [.int .i64 a, .int .i64 b] := by rw [← hWE]; exact (hX1.set_ 0 _).set_ 1 _
  have hBE : Below p w WE := by rw [← hWE]; exact ((hB1.setCell (Nat.le_refl _) _).setCell (Nat.le_refl _) _).drew
  refine hK _ _ hSd ?_
  clear hK K hWE x0 x1 f0 f1 hX1
  refine wpAnyH_done (by kernel_rfl) ?_ _
  go_wp2
  have g0 := hE.cell 0; have g1 := hE.cell 1; simp only [List.getElem?_cons_zero, List.getElem?_cons_succ] at g0 g1
  exact bodyPost_ret (v := .agg #[.int .i64 a, .int .i64 b]) (by simp [results, Try.results122, go_sem, g0, g1]; try rfl) rfl ⟨rfl, by first | exact hBE | (rw [hp]; exact hBE)⟩
theorem lowest_c (n d : Int) (w : World) (h1 : 1 ≤ d) (h2 : d ≤ 4000000000000000000) (h3 : -4000000000000000000 ≤ n) (h4 : n ≤ 4000000000000000000) :
    Calls Try.prog 87 #[.int .i64 n, .int .i64 d] w fun r w' => r = .returned (.agg #[.int .i64 (redQ n d).1, .int .i64 (redQ n d).2]) ∧ Below w.heap.size w w' := by
  have HC := hide (fun W => gcd_c n d W h1 (by omega) (by omega) (by omega))
  have g1 := gcd_pos n d (by omega)
  have g2 := gcd_le n d (by omega)
  have q1 := tdiv_gcd_left n d (by omega)
  have q2 := tdiv_gcd_right n d (by omega)
  have hd2 := redQ_den n d (by omega)
  have hd1 := redQ_num n d (by omega)
  rw [show n / (Int.gcd n d : Int) = (redQ n d).1 from rfl] at q1
  rw [show d / (Int.gcd n d : Int) = (redQ n d).2 from rfl] at q2
  generalize (redQ n d).1 = a at q1 hd1 ⊢
  generalize (redQ n d).2 = b at q2 hd2 ⊢
  generalize (Int.gcd n d : Int) = g at HC g1 g2 q1 q2
  have ha : -4000000000000000000 ≤ a ∧ a ≤ 4000000000000000000 := by omega
  have e1 : (g == 0) = false := by simp; omega
  have e2 : (g == -1) = false := by simp; omega
  have e3 : ¬ g = 0 := by omega
  have e4 : ¬ g = -1 := by omega
  have wa : IntKind.i64.wrap a = a := by simp (disch := omega) only [IntWalk.i64_in]
  have wb : IntKind.i64.wrap b = b := by simp (disch := omega) only [IntWalk.i64_in]
  obtain ⟨p, hp⟩ : ∃ p, w.heap.size = p := ⟨_, rfl⟩
  obtain ⟨W, hW⟩ : ∃ W, w.alloc (.cells #[.int .i64 0, .int .i64 0] 26) = W := ⟨_, rfl⟩
  have hB0 : Below p w W := by rw [← hW, ← hp]; exact alloc_bel _ _
  have hX : Blk W p 26 [.int .i64 0, .int .i64 0] := by rw [← hW, ← hp]; exact Blk.new w _ [_, _]
  have hsz : p < W.heap.size := hX.lt
  have HW := hide hW
  clear hW hd1
  go_enter Try.func87, Try.ntmps87
  go_upto_region 1 with fail
  rw [HW.out]
  go_upto_region 4 with (go_at_call 149; refine (HC.out _).mono ?_; rintro e_ w1 ⟨rfl, hb1⟩)
  have hX1 := hX.bel hb1
  have hB1 : Below p w w1 := bel_tr hB0 (by omega) hb1
  have x0 : w1.cell? ⟨p, 0, none⟩ = some (.int .i64 0) := hX1.cell 0
  have x1 : w1.cell? ⟨p, 1, none⟩ = some (.int .i64 0) := hX1.cell 1
  have f0 : w1.frozen? ⟨p, 0, none⟩ = false := hX1.frozen 0
  have f1 : w1.frozen? ⟨p, 1, none⟩ = false := hX1.frozen 1
  have hSd : (True ∧ True) := ⟨trivial, trivial⟩
  refine wp_region_held (S := fun _ => (True ∧ True)) (by kernel_rfl) ?_
  change wpAnyH _ _ _ _ _ _ _ _ w1.drew
  refine wpAnyH_take (i := 0) (v := ?_) rfl (by kernel_rfl) (by kernel_rfl) (by kernel_rfl) (fun _ _ _ h => h) (Or.inl ⟨by kernel_rfl, ?_⟩) (by assumption) ?_
  rotate_left 1
  · (intro w hSw; obtain ⟨hk1, hk2⟩ := hSw; go_simp <;> with_reducible rfl)
  simp only [Act.put, List.getElem_toArray, List.getElem_cons_zero, List.setIfInBounds_toArray, List.set_cons_zero, List.set_cons_succ]
  refine wpAnyH_take (i := 1) (v := ?_) rfl (by kernel_rfl) (by kernel_rfl) (by kernel_rfl) (fun _ _ _ h => h) (Or.inl ⟨by kernel_rfl, ?_⟩) (by assumption) ?_
  rotate_left 1
  · (intro w hSw; obtain ⟨hk1, hk2⟩ := hSw; go_simp <;> with_reducible rfl)
  simp only [Act.put, List.getElem_toArray, List.getElem_cons_zero, List.getElem_cons_succ, List.setIfInBounds_toArray, List.set_cons_zero, List.set_cons_succ]
  refine wpAnyH_take (i := 2) (v := ?_) rfl (by kernel_rfl) (by kernel_rfl) (by kernel_rfl) (fun _ _ _ h => h) (Or.inl ⟨by kernel_rfl, ?_⟩) (by assumption) ?_
  rotate_left 1
  · (intro w hSw; obtain ⟨hk1, hk2⟩ := hSw; go_simp <;> with_reducible rfl)
  simp only [Act.put, List.getElem_toArray, List.getElem_cons_zero, List.getElem_cons_succ, List.setIfInBounds_toArray, List.set_cons_zero, List.set_cons_succ]
  refine wpAnyH_take (i := 3) (v := ?_) rfl (by kernel_rfl) (by kernel_rfl) (by kernel_rfl) (fun _ _ _ h => h) (Or.inl ⟨by kernel_rfl, ?_⟩) (by assumption) ?_
  rotate_left 1
  · (intro w hSw; obtain ⟨hk1, hk2⟩ := hSw; go_simp <;> with_reducible rfl)
  simp only [Act.put, List.getElem_toArray, List.getElem_cons_zero, List.getElem_cons_succ, List.setIfInBounds_toArray, List.set_cons_zero, List.set_cons_succ]
  refine wpAnyH_take (i := 4) (v := ?_) rfl (by kernel_rfl) (by kernel_rfl) (by kernel_rfl) (fun _ _ _ h => h) (Or.inl ⟨by kernel_rfl, ?_⟩) (by assumption) ?_
  rotate_left 1
  · (intro w hSw; obtain ⟨hk1, hk2⟩ := hSw; go_simp <;> with_reducible rfl)
  simp only [Act.put, List.getElem_toArray, List.getElem_cons_zero, List.getElem_cons_succ, List.setIfInBounds_toArray, List.set_cons_zero, List.set_cons_succ]
  refine wpAnyH_take (i := 5) (v := ?_) rfl (by kernel_rfl) (by kernel_rfl) (by kernel_rfl) (fun _ _ _ h => h) (Or.inl ⟨by kernel_rfl, ?_⟩) (by assumption) ?_
  rotate_left 1
  · (intro w hSw; obtain ⟨hk1, hk2⟩ := hSw; go_simp <;> with_reducible rfl)
  simp only [Act.put, List.getElem_toArray, List.getElem_cons_zero, List.getElem_cons_succ, List.setIfInBounds_toArray, List.set_cons_zero, List.set_cons_succ]
  refine wpAnyH_take (i := 6) (v := ?_) rfl (by kernel_rfl) (by kernel_rfl) (by kernel_rfl) (fun _ _ _ h => h) (Or.inl ⟨by kernel_rfl, ?_⟩) (by assumption) ?_
  rotate_left 1
  · (intro w hSw; obtain ⟨hk1, hk2⟩ := hSw; go_simp <;> with_reducible rfl)
  simp only [Act.put, List.getElem_toArray, List.getElem_cons_zero, List.getElem_cons_succ, List.setIfInBounds_toArray, List.set_cons_zero, List.set_cons_succ]
  refine nextH (i := 7) (by kernel_rfl) rfl (fun K hK => ?_)
  go_simp
  obtain ⟨WE, hWE⟩ : ∃ WE, ((w1.setCell ⟨p, 0, none⟩ (.int .i64 a)).setCell ⟨p, 1, none⟩ (.int .i64 b)).drew = WE := ⟨_, rfl⟩
  rw [hWE]
  have hE : Blk WE p 26 [.int .i64 a, .int .i64 b] := by rw [← hWE]; exact (hX1.set_ 0 _).set_ 1 _
  have hBE : Below p w WE := by rw [← hWE]; exact ((hB1.setCell (Nat.le_refl _) _).setCell (Nat.le_refl _) _).drew
  refine hK _ _ hSd ?_
  clear hK K hWE x0 x1 f0 f1 hX1
  refine wpAnyH_done (by kernel_rfl) ?_ _
  go_wp2
  have g0 := hE.cell 0; have g1 := hE.cell 1; simp only [List.getElem?_cons_zero, List.getElem?_cons_succ] at g0 g1
  exact bodyPost_ret (v := .agg #[.int .i64 a, .int .i64 b]) (by simp [results, Try.results87, go_sem, g0, g1]; try rfl) rfl ⟨rfl, by first | exact hBE | (rw [hp]; exact hBE)⟩
end Go.Proofs.Ytkcjiejdjdcbeaa
