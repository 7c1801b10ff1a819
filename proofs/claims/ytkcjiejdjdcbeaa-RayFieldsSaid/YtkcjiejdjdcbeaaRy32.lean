/- Contracts: fractions compared; the reference's error of a ray. -/
import Derived.Test.YtkcjiejdjdcbeaaRy29
set_option linter.unusedSimpArgs false
set_option linter.unusedVariables false
set_option linter.unusedSimpArgs false
set_option linter.unusedVariables false
namespace Go.Proofs.Ytkcjiejdjdcbeaa
open Go.RowKit
set_option maxRecDepth 100000



/-- How two fractions compare. -/
def cmpQ (a b c d : Int) : Int := if a * d < c * b then -1 else if c * b < a * d then 1 else 0
set_option maxHeartbeats 2000000 in
theorem cmp_c (a b c d : Int) (w : World) (h1 : -3000000000 ≤ a) (h2 : a ≤ 3000000000) (h3 : -3000000000 ≤ b) (h4 : b ≤ 3000000000) (h5 : -3000000000 ≤ c) (h6 : c ≤ 3000000000) (h7 : -3000000000 ≤ d) (h8 : d ≤ 3000000000) :
    Calls Try.prog 43 #[.agg #[.int .i64 a, .int .i64 b], .agg #[.int .i64 c, .int .i64 d]] w fun r w' => r = .returned (.int .i64 (cmpQ a b c d)) ∧ Below w.heap.size w w' := by
  have hm1 := mul_in h1 h2 h7 h8
  have hm2 := mul_in h5 h6 h3 h4
  have HR : Hid (cmpQ a b c d = if a * d < c * b then -1 else if c * b < a * d then 1 else 0) := rfl
  generalize cmpQ a b c d = e at HR ⊢
  obtain ⟨P, hP⟩ : ∃ P, a * d = P := ⟨_, rfl⟩
  obtain ⟨Q, hQ⟩ : ∃ Q, c * b = Q := ⟨_, rfl⟩
  rw [hP, hQ] at HR
  rw [hP] at hm1
  rw [hQ] at hm2
  have wP : IntKind.i64.wrap P = P := by simp (disch := omega) only [IntWalk.i64_in]
  have wQ : IntKind.i64.wrap Q = Q := by simp (disch := omega) only [IntWalk.i64_in]
  obtain ⟨W, hW⟩ : ∃ W, (w.alloc (.cells #[.int .i64 a, .int .i64 b] 26)).alloc (.cells #[.int .i64 c, .int .i64 d] 26) = W := ⟨_, rfl⟩
  have hB0 : Below w.heap.size w W := by rw [← hW]; exact bel_alloc (alloc_bel _ _) (by simp) _
  have hX : Blk W w.heap.size 26 [.int .i64 a, .int .i64 b] := by rw [← hW]; exact (Blk.new w _ [_, _]).bel (alloc_bel _ _)
  have hY : Blk W (w.heap.size + 1) 26 [.int .i64 c, .int .i64 d] := by rw [← hW]; have := Blk.new (w.alloc (.cells #[.int .i64 a, .int .i64 b] 26)) 26 [.int .i64 c, .int .i64 d]; simpa using this
  have HW := hide hW
  clear hW
  have c0 := hX.cell 0; have c1 := hX.cell 1; simp only [List.getElem?_cons_zero, List.getElem?_cons_succ] at c0 c1
  have d0 := hY.cell 0; have d1 := hY.cell 1; simp only [List.getElem?_cons_zero, List.getElem?_cons_succ] at d0 d1
  have z1 := hX.lt
  have z2 := hY.lt
  go_enter Try.func43, Try.ntmps43
  go_upto_region 1 with fail
  rw [HW.out]
  have hSd : (∀ b o, b < W.heap.size → W.drew.cell? ⟨b, o, none⟩ = W.cell? ⟨b, o, none⟩) ∧ Below W.heap.size W W.drew := kp (Below.refl _ _).drew
  clear hX hY
  refine wp_region_held (S := fun w' => (∀ b o, b < W.heap.size → w'.cell? ⟨b, o, none⟩ = W.cell? ⟨b, o, none⟩) ∧ Below W.heap.size W w') (by kernel_rfl) ?_
  change wpAnyH _ _ _ _ _ _ _ _ W.drew
  refine wpAnyH_take (i := 0) (v := ?_) rfl (by kernel_rfl) (by kernel_rfl) (by kernel_rfl) (fun _ _ _ h => h) (Or.inl ⟨by kernel_rfl, ?_⟩) (by assumption) ?_
  rotate_left 1
  · (intro w hSw; obtain ⟨hk1, hk2⟩ := hSw; go_simp <;> with_reducible rfl)
  simp only [Act.put, List.getElem_toArray, List.getElem_cons_zero, List.setIfInBounds_toArray, List.set_cons_zero, List.set_cons_succ]
  refine wpAnyH_take (i := 1) (v := ?_) rfl (by kernel_rfl) (by kernel_rfl) (by kernel_rfl) (fun _ _ _ h => h) (Or.inl ⟨by kernel_rfl, ?_⟩) (by assumption) ?_
  rotate_left 1
  · (intro w hSw; obtain ⟨hk1, hk2⟩ := hSw; go_simp <;> with_reducible rfl)
  simp only [Act.put, List.getElem_toArray, List.getElem_cons_zero, List.getElem_cons_succ, List.setIfInBounds_toArray, List.set_cons_zero, List.set_cons_succ]
  refine wpAnyH_take (i := 2) (v := ?_) rfl (by kernel_rfl) (by kernel_rfl) (by kernel_rfl) (fun _ _ _ h => h) (Or.inl ⟨by kernel_rfl, ?_⟩) (by assumption) ?_
  rotate_left 1
  · (intro w hSw; obtain ⟨hk1, hk2⟩ := hSw; go_simp <;> with_reducible rfl)
  simp only [Act.put, List.getElem_toArray, List.getElem_cons_zero, List.getElem_cons_succ, List.setIfInBounds_toArray, List.set_cons_zero, List.set_cons_succ]
  refine wpAnyH_take (i := 3) (v := ?_) rfl (by kernel_rfl) (by kernel_rfl) (by kernel_rfl) (fun _ _ _ h => h) (Or.inl ⟨by kernel_rfl, ?_⟩) (by assumption) ?_
  rotate_left 1
  · (intro w hSw; obtain ⟨hk1, hk2⟩ := hSw; go_simp <;> with_reducible rfl)
  simp only [Act.put, List.getElem_toArray, List.getElem_cons_zero, List.getElem_cons_succ, List.setIfInBounds_toArray, List.set_cons_zero, List.set_cons_succ]
  refine wpAnyH_take (i := 4) (v := ?_) rfl (by kernel_rfl) (by kernel_rfl) (by kernel_rfl) (fun _ _ _ h => h) (Or.inl ⟨by kernel_rfl, ?_⟩) (by assumption) ?_
  rotate_left 1
  · (intro w hSw; obtain ⟨hk1, hk2⟩ := hSw; go_simp <;> with_reducible rfl)
  simp only [Act.put, List.getElem_toArray, List.getElem_cons_zero, List.getElem_cons_succ, List.setIfInBounds_toArray, List.set_cons_zero, List.set_cons_succ]
  refine wpAnyH_take (i := 5) (v := ?_) rfl (by kernel_rfl) (by kernel_rfl) (by kernel_rfl) (fun _ _ _ h => h) (Or.inl ⟨by kernel_rfl, ?_⟩) (by assumption) ?_
  rotate_left 1
  · (intro w hSw; obtain ⟨hk1, hk2⟩ := hSw; go_simp <;> with_reducible rfl)
  simp only [Act.put, List.getElem_toArray, List.getElem_cons_zero, List.getElem_cons_succ, List.setIfInBounds_toArray, List.set_cons_zero, List.set_cons_succ]
  refine wpAnyH_take (i := 6) (v := ?_) rfl (by kernel_rfl) (by kernel_rfl) (by kernel_rfl) (fun _ _ _ h => h) (Or.inl ⟨by kernel_rfl, ?_⟩) (by assumption) ?_
  rotate_left 1
  · (intro w hSw; obtain ⟨hk1, hk2⟩ := hSw; go_simp <;> with_reducible rfl)
  simp only [Act.put, List.getElem_toArray, List.getElem_cons_zero, List.getElem_cons_succ, List.setIfInBounds_toArray, List.set_cons_zero, List.set_cons_succ]
  refine wpAnyH_take (i := 7) (v := ?_) rfl (by kernel_rfl) (by kernel_rfl) (by kernel_rfl) (fun _ _ _ h => h) (Or.inl ⟨by kernel_rfl, ?_⟩) (by assumption) ?_
  rotate_left 1
  · (intro w hSw; obtain ⟨hk1, hk2⟩ := hSw; go_simp <;> with_reducible rfl)
  simp only [Act.put, List.getElem_toArray, List.getElem_cons_zero, List.getElem_cons_succ, List.setIfInBounds_toArray, List.set_cons_zero, List.set_cons_succ]
  refine wpAnyH_take (i := 8) (v := ?_) rfl (by kernel_rfl) (by kernel_rfl) (by kernel_rfl) (fun _ _ _ h => h) (Or.inl ⟨by kernel_rfl, ?_⟩) (by assumption) ?_
  rotate_left 1
  · (intro w hSw; obtain ⟨hk1, hk2⟩ := hSw; go_simp <;> with_reducible rfl)
  simp only [Act.put, List.getElem_toArray, List.getElem_cons_zero, List.getElem_cons_succ, List.setIfInBounds_toArray, List.set_cons_zero, List.set_cons_succ]
  refine wpAnyH_take (i := 9) (v := ?_) rfl (by kernel_rfl) (by kernel_rfl) (by kernel_rfl) (fun _ _ _ h => h) (Or.inl ⟨by kernel_rfl, ?_⟩) (by assumption) ?_
  rotate_left 1
  · (intro w hSw; obtain ⟨hk1, hk2⟩ := hSw; go_simp <;> with_reducible rfl)
  simp only [Act.put, List.getElem_toArray, List.getElem_cons_zero, List.getElem_cons_succ, List.setIfInBounds_toArray, List.set_cons_zero, List.set_cons_succ]
  refine wpAnyH_take (i := 10) (v := ?_) rfl (by kernel_rfl) (by kernel_rfl) (by kernel_rfl) (fun _ _ _ h => h) (Or.inl ⟨by kernel_rfl, ?_⟩) (by assumption) ?_
  rotate_left 1
  · (intro w hSw; obtain ⟨hk1, hk2⟩ := hSw; go_simp <;> with_reducible rfl)
  simp only [Act.put, List.getElem_toArray, List.getElem_cons_zero, List.getElem_cons_succ, List.setIfInBounds_toArray, List.set_cons_zero, List.set_cons_succ]
  refine wpAnyH_take (i := 11) (v := ?_) rfl (by kernel_rfl) (by kernel_rfl) (by kernel_rfl) (fun _ _ _ h => h) (Or.inl ⟨by kernel_rfl, ?_⟩) (by assumption) ?_
  rotate_left 1
  · (intro w hSw; obtain ⟨hk1, hk2⟩ := hSw; go_simp <;> with_reducible rfl)
  simp only [Act.put, List.getElem_toArray, List.getElem_cons_zero, List.getElem_cons_succ, List.setIfInBounds_toArray, List.set_cons_zero, List.set_cons_succ]
  refine wpAnyH_done (by kernel_rfl) ?_ _
  have hB1 : Below w.heap.size w W.drew := hB0.drew
  clear c0 c1 d0 d1 hSd
  by_cases g1 : P < Q
  · have HR2 : Hid (e = -1) := by show _ = _; rw [HR.out, if_pos g1]
    clear HR
    go_wp2
    go_ret
    exact ⟨ret_int HR2.out.symm, hB1⟩
  · by_cases g2 : Q < P
    · have HR2 : Hid (e = 1) := by show _ = _; rw [HR.out, if_neg g1, if_pos g2]
      clear HR
      go_wp2
      go_ret
      exact ⟨ret_int HR2.out.symm, hB1⟩
    · have HR2 : Hid (e = 0) := by show _ = _; rw [HR.out, if_neg g1, if_neg g2]
      clear HR
      go_wp2
      go_ret
      exact ⟨ret_int HR2.out.symm, hB1⟩
theorem refRayErr_c (H f n d : Int) (A : Option Addr) (c : Nat) (l : List G) (w : World) (hr : Rd w A (gs l)) (hl : l.length ≤ 1000) (h0 : -9223372036854775808 ≤ n) (h1 : n ≤ 9223372036854775807) (h2 : d ≤ 9223372036854775807) :
    Calls Try.prog 34 #[.agg #[.int .i64 H, .slice A l.length c], .int .i64 f, .agg #[.int .i64 n, .int .i64 d]] w fun r w' => r = .returned (.int .i64 (rayE H f n d l)) ∧ Below w.heap.size w w' := by
  have HS := hide (fun W (h : Rd W A (gs l)) => refSkyErr_c H A c l W h hl)
  have HT := hide (fun W => refShotErr_c f n d W h0 h1 h2)
  have HR : Hid (rayE H f n d l = firstE [(skyE H l).2, shotE f n d]) := rfl
  generalize rayE H f n d l = e at HR ⊢
  generalize (skyE H l).2 = es at HS HR
  generalize shotE f n d = et at HT HR
  obtain ⟨q, hq⟩ : ∃ q, w.heap.size = q := ⟨_, rfl⟩
  obtain ⟨q1, hq1⟩ : ∃ q1, q + 1 = q1 := ⟨_, rfl⟩
  obtain ⟨W, hW⟩ : ∃ W, (w.alloc (.cells #[.int .i64 H, .slice A l.length c] 24)).alloc (.cells #[.int .i64 n, .int .i64 d] 26) = W := ⟨_, rfl⟩
  have hB0 : Below q w W := by rw [← hW, ← hq]; exact bel_alloc (alloc_bel _ _) (by simp) _
  have hX : Blk W q 24 [.int .i64 H, .slice A l.length c] := by rw [← hW, ← hq]; exact (Blk.new w _ [_, _]).bel (alloc_bel _ _)
  have hY : Blk W q1 26 [.int .i64 n, .int .i64 d] := by
    rw [← hW, ← hq1, ← hq]
    have := Blk.new (w.alloc (.cells #[.int .i64 H, .slice A l.length c] 24)) 26 [.int .i64 n, .int .i64 d]
    simpa using this
  have hrW := hr.bel (show Below w.heap.size w W by rw [hq]; exact hB0)
  have HW := hide hW
  clear hW
  have c0 := hX.cell 0; have c1 := hX.cell 1; simp only [List.getElem?_cons_zero, List.getElem?_cons_succ] at c0 c1
  have zz := hX.lt
  by_cases he : es = 0
  · have e1 : (es != 0) = false := by simp [he]
    have HR2 : Hid (e = et) := by show _ = _; rw [HR.out, he]; simp [firstE]; omega
    clear HR he
    go_enter Try.func34, Try.ntmps34
    go_upto_region 1 with fail
    try simp only [World.size_alloc, hq, hq1]
    rw [HW.out]
    go_wp2_with (first
      | (go_at_call 53; refine (HS.out _ hrW).mono ?_; rintro e_ w1 ⟨rfl, hb1⟩; have hY1 := hY.bel hb1; obtain ⟨x0, x1, y0, y1⟩ := blk_two hY1)
      | (go_at_call 76; refine (HT.out _).mono ?_; rintro e_ w2 ⟨rfl, hb2⟩))
    go_ret
    exact ⟨ret_int HR2.out.symm, by first | exact (hB0.trans (hb1.mono (by omega))).trans (hb2.mono (by have := hb1.size; omega)) | (rw [hq]; exact (hB0.trans (hb1.mono (by omega))).trans (hb2.mono (by have := hb1.size; omega)))⟩
  · have e1 : (es != 0) = true := by simpa using he
    have HR2 : Hid (e = es) := by show _ = _; rw [HR.out]; simp [firstE, he]
    clear HR he
    go_enter Try.func34, Try.ntmps34
    go_upto_region 1 with fail
    try simp only [World.size_alloc, hq, hq1]
    rw [HW.out]
    go_wp2_with (go_at_call 53; refine (HS.out _ hrW).mono ?_; rintro e_ w1 ⟨rfl, hb1⟩)
    go_ret
    exact ⟨ret_int HR2.out.symm, by first | exact hB0.trans (hb1.mono (by omega)) | (rw [hq]; exact hB0.trans (hb1.mono (by omega)))⟩
end Go.Proofs.Ytkcjiejdjdcbeaa
