/- A group of texts (tools/groups.txt): Ry64a Ry64b Ry64c Ry64. No condition but those that each says. -/
import Derived.Test.YtkcjiejdjdcbeaaRy43
import Derived.Test.YtkcjiejdjdcbeaaRF
import Derived.Test.YtkcjiejdjdcbeaaRy31
import Derived.Test.YtkcjiejdjdcbeaaRy33
import Derived.Test.YtkcjiejdjdcbeaaRy29
import Derived.Test.YtkcjiejdjdcbeaaRy28
set_option linter.unusedSimpArgs false
set_option linter.unusedVariables false
/- The law of fields, ways a. -/
set_option linter.unusedSimpArgs false
set_option linter.unusedVariables false
namespace Go.Proofs.Ytkcjiejdjdcbeaa
open Go.RowKit
set_option maxRecDepth 100000

theorem firstE_01a (e : Int) : firstE [0, e] = e := by by_cases h : e = 0 <;> simp [firstE, h]
set_option maxHeartbeats 16000000 in
theorem fieldsLaw_1xxxx (H gy lo hi f n d : Int) (A : Option Addr) (c : Nat) (l : List G) (w : World) (hr : Rd w A (gs l)) (hl : l.length ≤ 14) (g1 : -9223372036854775808 ≤ n ∧ n ≤ 9223372036854775807) (g2 : d ≤ 9223372036854775807) (hs : (skyE H l).2 ≠ 0) :
    Calls Try.prog 11 #[.agg #[.int .i64 H, .slice A l.length c], .agg #[.int .i64 gy, .int .i64 lo, .int .i64 hi], .agg #[.int .i64 f, .int .i64 n, .int .i64 d]] w fun r w' => r = .returned (.bool true) ∧ Below w.heap.size w w' := by
  have HCP := hide (fun W (h : Rd W A (gs l)) => copySky_c H A c l W h (by omega))
  have HFW := hide (fun W => few_c H A c l W)
  rw [decide_eq_true (show (l.length : Int) ≤ 14 by omega)] at HFW
  have HSE := hide (fun W (h : Rd W A (gs l)) => refSkyErr_c H A c l W h (by omega))
  have HFE := hide (fun W => frequencyErr_c f W)
  have HXE := hide (fun W => refFieldErr_c gy lo hi W)
  have HXC := hide (fun W => checkField_c gy lo hi W)
  have HSH := hide (fun W => refShotErr_c f n d W g1.1 g1.2 g2)
  have HSL := hide (fun W => refSlowErr_c f gy lo hi W)
  have HIS := hide (fun A' c' W (h : Rd W A' (gs l)) => indexSpans_c H f gy lo hi A' c' l W h (by omega))
  have HRW := hide (fun A' c' W (h : Rd W A' (gs l)) => reflectsWith_c H gy lo hi f n d A' c' l W h (by omega) g1.1 g1.2 g2)
  have hx1 : spaE H f gy lo hi l = (skyE H l).2 := by unfold spaE; simp [firstE, hs]
  have hx1n : spaE H f gy lo hi l ≠ 0 := by rw [hx1]; exact hs
  rw [show spaN H f gy lo hi l = 0 by unfold spaN; rw [if_neg hx1n], show spaL H f gy lo hi l = [] by unfold spaL; rw [if_neg hx1n], hx1] at HIS
  clear hx1n hx1
  have hx2 : refE H gy lo hi f n d l = (skyE H l).2 := by unfold refE; simp [firstE, hs]
  rw [show refQ H gy lo hi f n d l = (0, (skyE H l).2) by unfold refQ; rw [if_pos (by rw [hx2]; exact hs), hx2]] at HRW
  clear hx2
  dsimp only at HRW
  generalize (skyE H l).2 = es at *
  have es1 : (es != 0) = true := by simpa using hs
  have es2 : (es == 0) = false := by simpa using hs
  have es9 : ¬ es = 0 := hs
  clear hs
  generalize fieldE gy lo hi = ed at *
  obtain ⟨q, hq⟩ : ∃ q, w.heap.size = q := ⟨_, rfl⟩
  obtain ⟨q1, hq1⟩ : ∃ q1, q + 1 = q1 := ⟨_, rfl⟩
  obtain ⟨q2, hq2⟩ : ∃ q2, q1 + 1 = q2 := ⟨_, rfl⟩
  obtain ⟨Wa, hWa⟩ : ∃ Wa, w.alloc (.cells #[.int .i64 H, .slice A l.length c] 24) = Wa := ⟨_, rfl⟩
  have ba : Below w.heap.size w Wa := by rw [← hWa]; exact alloc_bel _ _
  have sa : Wa.heap.size = q1 := by rw [← hWa, ← hq1, ← hq]; simp
  have ka : Blk Wa q 24 [.int .i64 H, .slice A l.length c] := by rw [← hWa, ← hq]; exact Blk.new w _ [_, _]
  obtain ⟨Wb, hWb⟩ : ∃ Wb, Wa.alloc (.cells #[.int .i64 gy, .int .i64 lo, .int .i64 hi] 121) = Wb := ⟨_, rfl⟩
  have bb : Below Wa.heap.size Wa Wb := by rw [← hWb]; exact alloc_bel _ _
  have sb : Wb.heap.size = q2 := by rw [← hWb, ← hq2, ← sa]; simp
  have kb : Blk Wb q1 121 [.int .i64 gy, .int .i64 lo, .int .i64 hi] := by rw [← hWb, ← sa]; exact Blk.new Wa _ [_, _, _]
  obtain ⟨w0, hWc⟩ : ∃ w0, Wb.alloc (.cells #[.int .i64 f, .int .i64 n, .int .i64 d] 123) = w0 := ⟨_, rfl⟩
  have bc : Below Wb.heap.size Wb w0 := by rw [← hWc]; exact alloc_bel _ _
  have kL0 : Blk w0 q2 123 [.int .i64 f, .int .i64 n, .int .i64 d] := by rw [← hWc, ← sb]; exact Blk.new Wb _ [_, _, _]
  have hABC : ((w.alloc (.cells #[.int .i64 H, .slice A l.length c] 24)).alloc (.cells #[.int .i64 gy, .int .i64 lo, .int .i64 hi] 121)).alloc (.cells #[.int .i64 f, .int .i64 n, .int .i64 d] 123) = w0 := by rw [hWa, hWb, hWc]
  have HW := hide hABC
  have kS0 := (ka.bel bb).bel bc
  have kF0 := kb.bel bc
  have hr0 := ((hr.bel ba).bel bb).bel bc
  have hB0 : Below q w w0 := by
    rw [hq] at ba
    exact (ba.trans (bb.mono (by omega))).trans (bc.mono (by omega))
  have z0 : q ≤ w0.heap.size := by have := kS0.lt; omega
  clear hABC hWa hWb hWc ba bb bc ka kb sa sb
  have ykS_0 := kS0.lt
  have ykF_0 := kF0.lt
  have ykL_0 := kL0.lt
  have s0 := kS0.cell 0; have s1 := kS0.cell 1; simp only [List.getElem?_cons_zero, List.getElem?_cons_succ] at s0 s1
  have t0 := kF0.cell 0; have t1 := kF0.cell 1; have t2 := kF0.cell 2; simp only [List.getElem?_cons_zero, List.getElem?_cons_succ] at t0 t1 t2
  have u0 := kL0.cell 0; have u1 := kL0.cell 1; have u2 := kL0.cell 2; simp only [List.getElem?_cons_zero, List.getElem?_cons_succ] at u0 u1 u2
  go_enter Try.func11, Try.ntmps11
  go_upto_region 1 with fail
  try simp only [World.size_alloc, hq, hq1, hq2]
  rw [HW.out]
  go_upto_region 3 with (go_at_call 15; refine (awake_c _).mono ?_; rintro e_ w1 ⟨rfl, hb1⟩)
  have hb0_1 : Below w0.heap.size w0 w1 := hb1
  have kS1 := kS0.bel hb0_1
  have kF1 := kF0.bel hb0_1
  have kL1 := kL0.bel hb0_1
  have hr1 := hr0.bel hb0_1
  have hB1 : Below q w w1 := hB0.trans (hb0_1.mono z0)
  have z1 : q ≤ w1.heap.size := by have := hb0_1.size; omega
  have ykS_1 := kS1.lt
  have ykF_1 := kF1.lt
  have ykL_1 := kL1.lt
  clear s0 s1 t0 t1 t2 u0 u1 u2 hB0 z0 hb0_1 kS0 kF0 kL0 hr0 ykS_0 ykF_0 ykL_0
  have s0 := kS1.cell 0; have s1 := kS1.cell 1; simp only [List.getElem?_cons_zero, List.getElem?_cons_succ] at s0 s1
  have t0 := kF1.cell 0; have t1 := kF1.cell 1; have t2 := kF1.cell 2; simp only [List.getElem?_cons_zero, List.getElem?_cons_succ] at t0 t1 t2
  have u0 := kL1.cell 0; have u1 := kL1.cell 1; have u2 := kL1.cell 2; simp only [List.getElem?_cons_zero, List.getElem?_cons_succ] at u0 u1 u2
  go_upto_region 5 with (go_at_call 16; refine (HFW.out _).mono ?_; rintro e_ w2 ⟨rfl, hb2⟩)
  have hb1_2 : Below w1.heap.size w1 w2 := hb2
  have kS2 := kS1.bel hb1_2
  have kF2 := kF1.bel hb1_2
  have kL2 := kL1.bel hb1_2
  have hr2 := hr1.bel hb1_2
  have hB2 : Below q w w2 := hB1.trans (hb1_2.mono z1)
  have z2 : q ≤ w2.heap.size := by have := hb1_2.size; omega
  have ykS_2 := kS2.lt
  have ykF_2 := kF2.lt
  have ykL_2 := kL2.lt
  clear s0 s1 t0 t1 t2 u0 u1 u2 hB1 z1 hb1_2 kS1 kF1 kL1 hr1 ykS_1 ykF_1 ykL_1
  have s0 := kS2.cell 0; have s1 := kS2.cell 1; simp only [List.getElem?_cons_zero, List.getElem?_cons_succ] at s0 s1
  have t0 := kF2.cell 0; have t1 := kF2.cell 1; have t2 := kF2.cell 2; simp only [List.getElem?_cons_zero, List.getElem?_cons_succ] at t0 t1 t2
  have u0 := kL2.cell 0; have u1 := kL2.cell 1; have u2 := kL2.cell 2; simp only [List.getElem?_cons_zero, List.getElem?_cons_succ] at u0 u1 u2
  have hSd : (∀ b o, b < w2.heap.size → w2.drew.cell? ⟨b, o, none⟩ = w2.cell? ⟨b, o, none⟩) ∧ Below w2.heap.size w2 w2.drew := kp (Below.refl _ _).drew
  refine wp_region_held (S := fun w' => (∀ b o, b < w2.heap.size → w'.cell? ⟨b, o, none⟩ = w2.cell? ⟨b, o, none⟩) ∧ Below w2.heap.size w2 w') (by kernel_rfl) ?_
  change wpAnyH _ _ _ _ _ _ _ _ w2.drew
  refine wpAnyH_take (i := 0) (v := ?_) rfl (by kernel_rfl) (by kernel_rfl) (by kernel_rfl) (fun _ _ _ h => h) (Or.inl ⟨by kernel_rfl, ?_⟩) (by assumption) ?_
  rotate_left 1
  · (intro w hSw; obtain ⟨hk1, hk2⟩ := hSw; go_simp <;> with_reducible rfl)
  simp only [Act.put, List.getElem_toArray, List.getElem_cons_zero, List.setIfInBounds_toArray, List.set_cons_zero, List.set_cons_succ]
  refine wpAnyH_take (i := 2) (v := ?_) rfl (by kernel_rfl) (by kernel_rfl) (by kernel_rfl) (fun _ _ _ h => h) (Or.inl ⟨by kernel_rfl, ?_⟩) (by assumption) ?_
  rotate_left 1
  · (intro w hSw; obtain ⟨hk1, hk2⟩ := hSw; go_simp <;> with_reducible rfl)
  simp only [Act.put, List.getElem_toArray, List.getElem_cons_zero, List.getElem_cons_succ, List.setIfInBounds_toArray, List.set_cons_zero, List.set_cons_succ]
  refine wpAnyH_take (i := 3) (v := ?_) rfl (by kernel_rfl) (by kernel_rfl) (by kernel_rfl) (fun _ _ _ h => h) (Or.inl ⟨by kernel_rfl, ?_⟩) (by assumption) ?_
  rotate_left 1
  · (intro w hSw; obtain ⟨hk1, hk2⟩ := hSw; go_simp <;> with_reducible rfl)
  simp only [Act.put, List.getElem_toArray, List.getElem_cons_zero, List.getElem_cons_succ, List.setIfInBounds_toArray, List.set_cons_zero, List.set_cons_succ]
  refine wpAnyH_take (i := 4) (v := ?_) rfl (by kernel_rfl) (by kernel_rfl) (by kernel_rfl) (fun _ _ _ h => h) (Or.inl ⟨by kernel_rfl, ?_⟩) (by assumption) ?_
  rotate_left 1
  · (intro w hSw; obtain ⟨hk1, hk2⟩ := hSw; go_simp <;> with_reducible rfl)
  simp only [Act.put, List.getElem_toArray, List.getElem_cons_zero, List.getElem_cons_succ, List.setIfInBounds_toArray, List.set_cons_zero, List.set_cons_succ]
  refine nextH (i := 1) (by kernel_rfl) rfl (fun K hK => ?_)
  go_simp
  refine (HCP.out _ (hr2.bel hSd.2)).mono ?_
  rintro e_ wp ⟨⟨Ap, cp, rfl, rap, rcp⟩, hbp⟩
  have hS' := kp (bel_tr hSd.2 hSd.2.size hbp)
  try dsimp only
  refine hK _ _ hS' ?_
  clear hK K hSd
  have hSd := hS'
  clear hS'
  refine nextH (i := 5) (by kernel_rfl) rfl (fun K hK => ?_)
  go_simp
  refine (HIS.out _ _ _ rap).mono ?_
  rintro e_ w3 ⟨⟨A3, c3, rfl, rx3⟩, hb3⟩
  have hS' := kp (bel_tr hSd.2 hSd.2.size hb3)
  try dsimp only
  refine hK _ _ hS' ?_
  clear hK K hSd
  have hSd := hS'
  clear hS'
  refine wpAnyH_take (i := 6) (v := ?_) rfl (by kernel_rfl) (by kernel_rfl) (by kernel_rfl) (fun _ _ _ h => h) (Or.inl ⟨by kernel_rfl, ?_⟩) (by assumption) ?_
  rotate_left 1
  · (intro w hSw; obtain ⟨hk1, hk2⟩ := hSw; go_simp <;> with_reducible rfl)
  simp only [Act.put, List.getElem_toArray, List.getElem_cons_zero, List.getElem_cons_succ, List.setIfInBounds_toArray, List.set_cons_zero, List.set_cons_succ]
  refine wpAnyH_take (i := 7) (v := ?_) rfl (by kernel_rfl) (by kernel_rfl) (by kernel_rfl) (fun _ _ _ h => h) (Or.inl ⟨by kernel_rfl, ?_⟩) (by assumption) ?_
  rotate_left 1
  · (intro w hSw; obtain ⟨hk1, hk2⟩ := hSw; go_simp <;> with_reducible rfl)
  simp only [Act.put, List.getElem_toArray, List.getElem_cons_zero, List.getElem_cons_succ, List.setIfInBounds_toArray, List.set_cons_zero, List.set_cons_succ]
  refine wpAnyH_take (i := 8) (v := ?_) rfl (by kernel_rfl) (by kernel_rfl) (by kernel_rfl) (fun _ _ _ h => h) (Or.inl ⟨by kernel_rfl, ?_⟩) (by assumption) ?_
  rotate_left 1
  · (intro w hSw; obtain ⟨hk1, hk2⟩ := hSw; go_simp <;> with_reducible rfl)
  simp only [Act.put, List.getElem_toArray, List.getElem_cons_zero, List.getElem_cons_succ, List.setIfInBounds_toArray, List.set_cons_zero, List.set_cons_succ]
  refine wpAnyH_take (i := 9) (v := ?_) rfl (by kernel_rfl) (by kernel_rfl) (by kernel_rfl) (fun _ _ _ h => h) (Or.inl ⟨by kernel_rfl, ?_⟩) (by assumption) ?_
  rotate_left 1
  · (intro w hSw; obtain ⟨hk1, hk2⟩ := hSw; go_simp <;> with_reducible rfl)
  simp only [Act.put, List.getElem_toArray, List.getElem_cons_zero, List.getElem_cons_succ, List.setIfInBounds_toArray, List.set_cons_zero, List.set_cons_succ]
  refine wpAnyH_take (i := 10) (v := ?_) rfl (by kernel_rfl) (by kernel_rfl) (by kernel_rfl) (fun _ _ _ h => h) (Or.inl ⟨by kernel_rfl, ?_⟩) (by assumption) ?_
  rotate_left 1
  · (intro w hSw; obtain ⟨hk1, hk2⟩ := hSw; go_simp <;> with_reducible rfl)
  simp only [Act.put, List.getElem_toArray, List.getElem_cons_zero, List.getElem_cons_succ, List.setIfInBounds_toArray, List.set_cons_zero, List.set_cons_succ]
  refine wpAnyH_done (by kernel_rfl) ?_ _
  have hb2_3 : Below w2.heap.size w2 w3 := hSd.2
  have kS3 := kS2.bel hb2_3
  have kF3 := kF2.bel hb2_3
  have kL3 := kL2.bel hb2_3
  have hr3 := hr2.bel hb2_3
  have hB3 : Below q w w3 := hB2.trans (hb2_3.mono z2)
  have z3 : q ≤ w3.heap.size := by have := hb2_3.size; omega
  have ykS_3 := kS3.lt
  have ykF_3 := kF3.lt
  have ykL_3 := kL3.lt
  clear s0 s1 t0 t1 t2 u0 u1 u2 hB2 z2 hb2_3 kS2 kF2 kL2 hr2 ykS_2 ykF_2 ykL_2
  have s0 := kS3.cell 0; have s1 := kS3.cell 1; simp only [List.getElem?_cons_zero, List.getElem?_cons_succ] at s0 s1
  have t0 := kF3.cell 0; have t1 := kF3.cell 1; have t2 := kF3.cell 2; simp only [List.getElem?_cons_zero, List.getElem?_cons_succ] at t0 t1 t2
  have u0 := kL3.cell 0; have u1 := kL3.cell 1; have u2 := kL3.cell 2; simp only [List.getElem?_cons_zero, List.getElem?_cons_succ] at u0 u1 u2
  clear hSd hbp hb3 rap rcp
  go_upto_region 6 with fail
  have hSd : (∀ b o, b < w3.heap.size → w3.drew.cell? ⟨b, o, none⟩ = w3.cell? ⟨b, o, none⟩) ∧ Below w3.heap.size w3 w3.drew := kp (Below.refl _ _).drew
  refine wp_region_held (S := fun w' => (∀ b o, b < w3.heap.size → w'.cell? ⟨b, o, none⟩ = w3.cell? ⟨b, o, none⟩) ∧ Below w3.heap.size w3 w') (by kernel_rfl) ?_
  change wpAnyH _ _ _ _ _ _ _ _ w3.drew
  refine wpAnyH_take (i := 0) (v := ?_) rfl (by kernel_rfl) (by kernel_rfl) (by kernel_rfl) (fun _ _ _ h => h) (Or.inl ⟨by kernel_rfl, ?_⟩) (by assumption) ?_
  rotate_left 1
  · (intro w hSw; obtain ⟨hk1, hk2⟩ := hSw; go_simp <;> with_reducible rfl)
  simp only [Act.put, List.getElem_toArray, List.getElem_cons_zero, List.setIfInBounds_toArray, List.set_cons_zero, List.set_cons_succ]
  refine wpAnyH_take (i := 2) (v := ?_) rfl (by kernel_rfl) (by kernel_rfl) (by kernel_rfl) (fun _ _ _ h => h) (Or.inl ⟨by kernel_rfl, ?_⟩) (by assumption) ?_
  rotate_left 1
  · (intro w hSw; obtain ⟨hk1, hk2⟩ := hSw; go_simp <;> with_reducible rfl)
  simp only [Act.put, List.getElem_toArray, List.getElem_cons_zero, List.getElem_cons_succ, List.setIfInBounds_toArray, List.set_cons_zero, List.set_cons_succ]
  refine wpAnyH_take (i := 3) (v := ?_) rfl (by kernel_rfl) (by kernel_rfl) (by kernel_rfl) (fun _ _ _ h => h) (Or.inl ⟨by kernel_rfl, ?_⟩) (by assumption) ?_
  rotate_left 1
  · (intro w hSw; obtain ⟨hk1, hk2⟩ := hSw; go_simp <;> with_reducible rfl)
  simp only [Act.put, List.getElem_toArray, List.getElem_cons_zero, List.getElem_cons_succ, List.setIfInBounds_toArray, List.set_cons_zero, List.set_cons_succ]
  refine nextH (i := 1) (by kernel_rfl) rfl (fun K hK => ?_)
  go_simp
  refine (HCP.out _ (hr3.bel hSd.2)).mono ?_
  rintro e_ wp ⟨⟨Ap, cp, rfl, rap, rcp⟩, hbp⟩
  have hS' := kp (bel_tr hSd.2 hSd.2.size hbp)
  try dsimp only
  refine hK _ _ hS' ?_
  clear hK K hSd
  have hSd := hS'
  clear hS'
  refine nextH (i := 4) (by kernel_rfl) rfl (fun K hK => ?_)
  go_simp
  refine (HRW.out _ _ _ rap).mono ?_
  rintro e_ w4 ⟨rfl, hb4⟩
  have hS' := kp (bel_tr hSd.2 hSd.2.size hb4)
  try dsimp only
  refine hK _ _ hS' ?_
  clear hK K hSd
  have hSd := hS'
  clear hS'
  refine wpAnyH_take (i := 5) (v := ?_) rfl (by kernel_rfl) (by kernel_rfl) (by kernel_rfl) (fun _ _ _ h => h) (Or.inl ⟨by kernel_rfl, ?_⟩) (by assumption) ?_
  rotate_left 1
  · (intro w hSw; obtain ⟨hk1, hk2⟩ := hSw; go_simp <;> with_reducible rfl)
  simp only [Act.put, List.getElem_toArray, List.getElem_cons_zero, List.getElem_cons_succ, List.setIfInBounds_toArray, List.set_cons_zero, List.set_cons_succ]
  refine wpAnyH_take (i := 6) (v := ?_) rfl (by kernel_rfl) (by kernel_rfl) (by kernel_rfl) (fun _ _ _ h => h) (Or.inl ⟨by kernel_rfl, ?_⟩) (by assumption) ?_
  rotate_left 1
  · (intro w hSw; obtain ⟨hk1, hk2⟩ := hSw; go_simp <;> with_reducible rfl)
  simp only [Act.put, List.getElem_toArray, List.getElem_cons_zero, List.getElem_cons_succ, List.setIfInBounds_toArray, List.set_cons_zero, List.set_cons_succ]
  refine wpAnyH_take (i := 7) (v := ?_) rfl (by kernel_rfl) (by kernel_rfl) (by kernel_rfl) (fun _ _ _ h => h) (Or.inl ⟨by kernel_rfl, ?_⟩) (by assumption) ?_
  rotate_left 1
  · (intro w hSw; obtain ⟨hk1, hk2⟩ := hSw; go_simp <;> with_reducible rfl)
  simp only [Act.put, List.getElem_toArray, List.getElem_cons_zero, List.getElem_cons_succ, List.setIfInBounds_toArray, List.set_cons_zero, List.set_cons_succ]
  refine wpAnyH_take (i := 8) (v := ?_) rfl (by kernel_rfl) (by kernel_rfl) (by kernel_rfl) (fun _ _ _ h => h) (Or.inl ⟨by kernel_rfl, ?_⟩) (by assumption) ?_
  rotate_left 1
  · (intro w hSw; obtain ⟨hk1, hk2⟩ := hSw; go_simp <;> with_reducible rfl)
  simp only [Act.put, List.getElem_toArray, List.getElem_cons_zero, List.getElem_cons_succ, List.setIfInBounds_toArray, List.set_cons_zero, List.set_cons_succ]
  refine wpAnyH_take (i := 9) (v := ?_) rfl (by kernel_rfl) (by kernel_rfl) (by kernel_rfl) (fun _ _ _ h => h) (Or.inl ⟨by kernel_rfl, ?_⟩) (by assumption) ?_
  rotate_left 1
  · (intro w hSw; obtain ⟨hk1, hk2⟩ := hSw; go_simp <;> with_reducible rfl)
  simp only [Act.put, List.getElem_toArray, List.getElem_cons_zero, List.getElem_cons_succ, List.setIfInBounds_toArray, List.set_cons_zero, List.set_cons_succ]
  refine wpAnyH_done (by kernel_rfl) ?_ _
  have hb3_4 : Below w3.heap.size w3 w4 := hSd.2
  have kS4 := kS3.bel hb3_4
  have kF4 := kF3.bel hb3_4
  have kL4 := kL3.bel hb3_4
  have hr4 := hr3.bel hb3_4
  have rx4 := rx3.bel hb3_4
  have hB4 : Below q w w4 := hB3.trans (hb3_4.mono z3)
  have z4 : q ≤ w4.heap.size := by have := hb3_4.size; omega
  have ykS_4 := kS4.lt
  have ykF_4 := kF4.lt
  have ykL_4 := kL4.lt
  clear s0 s1 t0 t1 t2 u0 u1 u2 hB3 z3 hb3_4 kS3 kF3 kL3 hr3 rx3 ykS_3 ykF_3 ykL_3
  have s0 := kS4.cell 0; have s1 := kS4.cell 1; simp only [List.getElem?_cons_zero, List.getElem?_cons_succ] at s0 s1
  have t0 := kF4.cell 0; have t1 := kF4.cell 1; have t2 := kF4.cell 2; simp only [List.getElem?_cons_zero, List.getElem?_cons_succ] at t0 t1 t2
  have u0 := kL4.cell 0; have u1 := kL4.cell 1; have u2 := kL4.cell 2; simp only [List.getElem?_cons_zero, List.getElem?_cons_succ] at u0 u1 u2
  clear hSd hbp hb4 rap rcp
  go_upto_region 8 with (go_at_call 71; refine (HXE.out _).mono ?_; rintro e_ w5 ⟨rfl, hb5⟩)
  have hb4_5 : Below w4.heap.size w4 w5 := hb5
  have kS5 := kS4.bel hb4_5
  have kF5 := kF4.bel hb4_5
  have kL5 := kL4.bel hb4_5
  have hr5 := hr4.bel hb4_5
  have rx5 := rx4.bel hb4_5
  have hB5 : Below q w w5 := hB4.trans (hb4_5.mono z4)
  have z5 : q ≤ w5.heap.size := by have := hb4_5.size; omega
  have ykS_5 := kS5.lt
  have ykF_5 := kF5.lt
  have ykL_5 := kL5.lt
  clear s0 s1 t0 t1 t2 u0 u1 u2 hB4 z4 hb4_5 kS4 kF4 kL4 hr4 rx4 ykS_4 ykF_4 ykL_4
  have s0 := kS5.cell 0; have s1 := kS5.cell 1; simp only [List.getElem?_cons_zero, List.getElem?_cons_succ] at s0 s1
  have t0 := kF5.cell 0; have t1 := kF5.cell 1; have t2 := kF5.cell 2; simp only [List.getElem?_cons_zero, List.getElem?_cons_succ] at t0 t1 t2
  have u0 := kL5.cell 0; have u1 := kL5.cell 1; have u2 := kL5.cell 2; simp only [List.getElem?_cons_zero, List.getElem?_cons_succ] at u0 u1 u2
  clear hb5
  go_upto_region 10 with (go_at_call 72; refine (HXC.out _).mono ?_; rintro e_ w6 ⟨rfl, hb6⟩)
  have hb5_6 : Below w5.heap.size w5 w6 := hb6
  have kS6 := kS5.bel hb5_6
  have kF6 := kF5.bel hb5_6
  have kL6 := kL5.bel hb5_6
  have hr6 := hr5.bel hb5_6
  have rx6 := rx5.bel hb5_6
  have hB6 : Below q w w6 := hB5.trans (hb5_6.mono z5)
  have z6 : q ≤ w6.heap.size := by have := hb5_6.size; omega
  have ykS_6 := kS6.lt
  have ykF_6 := kF6.lt
  have ykL_6 := kL6.lt
  clear s0 s1 t0 t1 t2 u0 u1 u2 hB5 z5 hb5_6 kS5 kF5 kL5 hr5 rx5 ykS_5 ykF_5 ykL_5
  have s0 := kS6.cell 0; have s1 := kS6.cell 1; simp only [List.getElem?_cons_zero, List.getElem?_cons_succ] at s0 s1
  have t0 := kF6.cell 0; have t1 := kF6.cell 1; have t2 := kF6.cell 2; simp only [List.getElem?_cons_zero, List.getElem?_cons_succ] at t0 t1 t2
  have u0 := kL6.cell 0; have u1 := kL6.cell 1; have u2 := kL6.cell 2; simp only [List.getElem?_cons_zero, List.getElem?_cons_succ] at u0 u1 u2
  clear hb6
  go_upto_region 11 with (go_at_call 53; refine (HSE.out _ hr6).mono ?_; rintro e_ w7 ⟨rfl, hb7⟩)
  have hb6_7 : Below w6.heap.size w6 w7 := hb7
  have kS7 := kS6.bel hb6_7
  have kF7 := kF6.bel hb6_7
  have kL7 := kL6.bel hb6_7
  have hr7 := hr6.bel hb6_7
  have rx7 := rx6.bel hb6_7
  have hB7 : Below q w w7 := hB6.trans (hb6_7.mono z6)
  have z7 : q ≤ w7.heap.size := by have := hb6_7.size; omega
  have ykS_7 := kS7.lt
  have ykF_7 := kF7.lt
  have ykL_7 := kL7.lt
  clear s0 s1 t0 t1 t2 u0 u1 u2 hB6 z6 hb6_7 kS6 kF6 kL6 hr6 rx6 ykS_6 ykF_6 ykL_6
  have s0 := kS7.cell 0; have s1 := kS7.cell 1; simp only [List.getElem?_cons_zero, List.getElem?_cons_succ] at s0 s1
  have t0 := kF7.cell 0; have t1 := kF7.cell 1; have t2 := kF7.cell 2; simp only [List.getElem?_cons_zero, List.getElem?_cons_succ] at t0 t1 t2
  have u0 := kL7.cell 0; have u1 := kL7.cell 1; have u2 := kL7.cell 2; simp only [List.getElem?_cons_zero, List.getElem?_cons_succ] at u0 u1 u2
  clear hb7
  go_upto_region 17 with fail
  go_upto_region 19 with fail
  go_upto_region 20 with (go_at_call 53; refine (HSE.out _ hr7).mono ?_; rintro e_ w11 ⟨rfl, hb11⟩)
  have hb7_11 : Below w7.heap.size w7 w11 := hb11
  have kS11 := kS7.bel hb7_11
  have kF11 := kF7.bel hb7_11
  have kL11 := kL7.bel hb7_11
  have hr11 := hr7.bel hb7_11
  have rx11 := rx7.bel hb7_11
  have hB11 : Below q w w11 := hB7.trans (hb7_11.mono z7)
  have z11 : q ≤ w11.heap.size := by have := hb7_11.size; omega
  have ykS_11 := kS11.lt
  have ykF_11 := kF11.lt
  have ykL_11 := kL11.lt
  clear s0 s1 t0 t1 t2 u0 u1 u2 hB7 z7 hb7_11 kS7 kF7 kL7 hr7 rx7 ykS_7 ykF_7 ykL_7
  have s0 := kS11.cell 0; have s1 := kS11.cell 1; simp only [List.getElem?_cons_zero, List.getElem?_cons_succ] at s0 s1
  have t0 := kF11.cell 0; have t1 := kF11.cell 1; have t2 := kF11.cell 2; simp only [List.getElem?_cons_zero, List.getElem?_cons_succ] at t0 t1 t2
  have u0 := kL11.cell 0; have u1 := kL11.cell 1; have u2 := kL11.cell 2; simp only [List.getElem?_cons_zero, List.getElem?_cons_succ] at u0 u1 u2
  clear hb11
  go_wp2
  go_ret
  exact ⟨rfl, by first | exact hB11 | (rw [hq]; exact hB11)⟩
set_option maxHeartbeats 16000000 in
theorem fieldsLaw_011xx (H gy lo hi f n d : Int) (A : Option Addr) (c : Nat) (l : List G) (w : World) (hr : Rd w A (gs l)) (hl : l.length ≤ 14) (g1 : -9223372036854775808 ≤ n ∧ n ≤ 9223372036854775807) (g2 : d ≤ 9223372036854775807) (hs : (skyE H l).2 = 0) (hfr : freqE f ≠ 0) (hfd : fieldE gy lo hi ≠ 0) :
    Calls Try.prog 11 #[.agg #[.int .i64 H, .slice A l.length c], .agg #[.int .i64 gy, .int .i64 lo, .int .i64 hi], .agg #[.int .i64 f, .int .i64 n, .int .i64 d]] w fun r w' => r = .returned (.bool true) ∧ Below w.heap.size w w' := by
  have HCP := hide (fun W (h : Rd W A (gs l)) => copySky_c H A c l W h (by omega))
  have HFW := hide (fun W => few_c H A c l W)
  rw [decide_eq_true (show (l.length : Int) ≤ 14 by omega)] at HFW
  have HSE := hide (fun W (h : Rd W A (gs l)) => refSkyErr_c H A c l W h (by omega))
  have HFE := hide (fun W => frequencyErr_c f W)
  have HXE := hide (fun W => refFieldErr_c gy lo hi W)
  have HXC := hide (fun W => checkField_c gy lo hi W)
  have HSH := hide (fun W => refShotErr_c f n d W g1.1 g1.2 g2)
  have HSL := hide (fun W => refSlowErr_c f gy lo hi W)
  have HIS := hide (fun A' c' W (h : Rd W A' (gs l)) => indexSpans_c H f gy lo hi A' c' l W h (by omega))
  have HRW := hide (fun A' c' W (h : Rd W A' (gs l)) => reflectsWith_c H gy lo hi f n d A' c' l W h (by omega) g1.1 g1.2 g2)
  have hx1 : spaE H f gy lo hi l = freqE f := by unfold spaE; simp [firstE, hs, hfr, hfd]
  have hx1n : spaE H f gy lo hi l ≠ 0 := by rw [hx1]; exact hfr
  rw [show spaN H f gy lo hi l = 0 by unfold spaN; rw [if_neg hx1n], show spaL H f gy lo hi l = [] by unfold spaL; rw [if_neg hx1n], hx1] at HIS
  clear hx1n hx1
  have hx2 : refE H gy lo hi f n d l = fieldE gy lo hi := by unfold refE; simp [firstE, hs, hfr, hfd]
  rw [show refQ H gy lo hi f n d l = (0, fieldE gy lo hi) by unfold refQ; rw [if_pos (by rw [hx2]; exact hfd), hx2]] at HRW
  clear hx2
  dsimp only at HRW
  try rw [hs] at HSE
  try rw [hs] at HFE
  try rw [hs] at HXE
  try rw [hs] at HXC
  try rw [hs] at HSH
  try rw [hs] at HSL
  try rw [hs] at HIS
  try rw [hs] at HRW
  clear hs
  generalize freqE f = ef at *
  have ef1 : (ef != 0) = true := by simpa using hfr
  have ef2 : (ef == 0) = false := by simpa using hfr
  have ef9 : ¬ ef = 0 := hfr
  clear hfr
  generalize fieldE gy lo hi = ed at *
  have ed1 : (ed != 0) = true := by simpa using hfd
  have ed2 : (ed == 0) = false := by simpa using hfd
  have ed9 : ¬ ed = 0 := hfd
  clear hfd
  obtain ⟨q, hq⟩ : ∃ q, w.heap.size = q := ⟨_, rfl⟩
  obtain ⟨q1, hq1⟩ : ∃ q1, q + 1 = q1 := ⟨_, rfl⟩
  obtain ⟨q2, hq2⟩ : ∃ q2, q1 + 1 = q2 := ⟨_, rfl⟩
  obtain ⟨Wa, hWa⟩ : ∃ Wa, w.alloc (.cells #[.int .i64 H, .slice A l.length c] 24) = Wa := ⟨_, rfl⟩
  have ba : Below w.heap.size w Wa := by rw [← hWa]; exact alloc_bel _ _
  have sa : Wa.heap.size = q1 := by rw [← hWa, ← hq1, ← hq]; simp
  have ka : Blk Wa q 24 [.int .i64 H, .slice A l.length c] := by rw [← hWa, ← hq]; exact Blk.new w _ [_, _]
  obtain ⟨Wb, hWb⟩ : ∃ Wb, Wa.alloc (.cells #[.int .i64 gy, .int .i64 lo, .int .i64 hi] 121) = Wb := ⟨_, rfl⟩
  have bb : Below Wa.heap.size Wa Wb := by rw [← hWb]; exact alloc_bel _ _
  have sb : Wb.heap.size = q2 := by rw [← hWb, ← hq2, ← sa]; simp
  have kb : Blk Wb q1 121 [.int .i64 gy, .int .i64 lo, .int .i64 hi] := by rw [← hWb, ← sa]; exact Blk.new Wa _ [_, _, _]
  obtain ⟨w0, hWc⟩ : ∃ w0, Wb.alloc (.cells #[.int .i64 f, .int .i64 n, .int .i64 d] 123) = w0 := ⟨_, rfl⟩
  have bc : Below Wb.heap.size Wb w0 := by rw [← hWc]; exact alloc_bel _ _
  have kL0 : Blk w0 q2 123 [.int .i64 f, .int .i64 n, .int .i64 d] := by rw [← hWc, ← sb]; exact Blk.new Wb _ [_, _, _]
  have hABC : ((w.alloc (.cells #[.int .i64 H, .slice A l.length c] 24)).alloc (.cells #[.int .i64 gy, .int .i64 lo, .int .i64 hi] 121)).alloc (.cells #[.int .i64 f, .int .i64 n, .int .i64 d] 123) = w0 := by rw [hWa, hWb, hWc]
  have HW := hide hABC
  have kS0 := (ka.bel bb).bel bc
  have kF0 := kb.bel bc
  have hr0 := ((hr.bel ba).bel bb).bel bc
  have hB0 : Below q w w0 := by
    rw [hq] at ba
    exact (ba.trans (bb.mono (by omega))).trans (bc.mono (by omega))
  have z0 : q ≤ w0.heap.size := by have := kS0.lt; omega
  clear hABC hWa hWb hWc ba bb bc ka kb sa sb
  have ykS_0 := kS0.lt
  have ykF_0 := kF0.lt
  have ykL_0 := kL0.lt
  have s0 := kS0.cell 0; have s1 := kS0.cell 1; simp only [List.getElem?_cons_zero, List.getElem?_cons_succ] at s0 s1
  have t0 := kF0.cell 0; have t1 := kF0.cell 1; have t2 := kF0.cell 2; simp only [List.getElem?_cons_zero, List.getElem?_cons_succ] at t0 t1 t2
  have u0 := kL0.cell 0; have u1 := kL0.cell 1; have u2 := kL0.cell 2; simp only [List.getElem?_cons_zero, List.getElem?_cons_succ] at u0 u1 u2
  go_enter Try.func11, Try.ntmps11
  go_upto_region 1 with fail
  try simp only [World.size_alloc, hq, hq1, hq2]
  rw [HW.out]
  go_upto_region 3 with (go_at_call 15; refine (awake_c _).mono ?_; rintro e_ w1 ⟨rfl, hb1⟩)
  have hb0_1 : Below w0.heap.size w0 w1 := hb1
  have kS1 := kS0.bel hb0_1
  have kF1 := kF0.bel hb0_1
  have kL1 := kL0.bel hb0_1
  have hr1 := hr0.bel hb0_1
  have hB1 : Below q w w1 := hB0.trans (hb0_1.mono z0)
  have z1 : q ≤ w1.heap.size := by have := hb0_1.size; omega
  have ykS_1 := kS1.lt
  have ykF_1 := kF1.lt
  have ykL_1 := kL1.lt
  clear s0 s1 t0 t1 t2 u0 u1 u2 hB0 z0 hb0_1 kS0 kF0 kL0 hr0 ykS_0 ykF_0 ykL_0
  have s0 := kS1.cell 0; have s1 := kS1.cell 1; simp only [List.getElem?_cons_zero, List.getElem?_cons_succ] at s0 s1
  have t0 := kF1.cell 0; have t1 := kF1.cell 1; have t2 := kF1.cell 2; simp only [List.getElem?_cons_zero, List.getElem?_cons_succ] at t0 t1 t2
  have u0 := kL1.cell 0; have u1 := kL1.cell 1; have u2 := kL1.cell 2; simp only [List.getElem?_cons_zero, List.getElem?_cons_succ] at u0 u1 u2
  go_upto_region 5 with (go_at_call 16; refine (HFW.out _).mono ?_; rintro e_ w2 ⟨rfl, hb2⟩)
  have hb1_2 : Below w1.heap.size w1 w2 := hb2
  have kS2 := kS1.bel hb1_2
  have kF2 := kF1.bel hb1_2
  have kL2 := kL1.bel hb1_2
  have hr2 := hr1.bel hb1_2
  have hB2 : Below q w w2 := hB1.trans (hb1_2.mono z1)
  have z2 : q ≤ w2.heap.size := by have := hb1_2.size; omega
  have ykS_2 := kS2.lt
  have ykF_2 := kF2.lt
  have ykL_2 := kL2.lt
  clear s0 s1 t0 t1 t2 u0 u1 u2 hB1 z1 hb1_2 kS1 kF1 kL1 hr1 ykS_1 ykF_1 ykL_1
  have s0 := kS2.cell 0; have s1 := kS2.cell 1; simp only [List.getElem?_cons_zero, List.getElem?_cons_succ] at s0 s1
  have t0 := kF2.cell 0; have t1 := kF2.cell 1; have t2 := kF2.cell 2; simp only [List.getElem?_cons_zero, List.getElem?_cons_succ] at t0 t1 t2
  have u0 := kL2.cell 0; have u1 := kL2.cell 1; have u2 := kL2.cell 2; simp only [List.getElem?_cons_zero, List.getElem?_cons_succ] at u0 u1 u2
  have hSd : (∀ b o, b < w2.heap.size → w2.drew.cell? ⟨b, o, none⟩ = w2.cell? ⟨b, o, none⟩) ∧ Below w2.heap.size w2 w2.drew := kp (Below.refl _ _).drew
  refine wp_region_held (S := fun w' => (∀ b o, b < w2.heap.size → w'.cell? ⟨b, o, none⟩ = w2.cell? ⟨b, o, none⟩) ∧ Below w2.heap.size w2 w') (by kernel_rfl) ?_
  change wpAnyH _ _ _ _ _ _ _ _ w2.drew
  refine wpAnyH_take (i := 0) (v := ?_) rfl (by kernel_rfl) (by kernel_rfl) (by kernel_rfl) (fun _ _ _ h => h) (Or.inl ⟨by kernel_rfl, ?_⟩) (by assumption) ?_
  rotate_left 1
  · (intro w hSw; obtain ⟨hk1, hk2⟩ := hSw; go_simp <;> with_reducible rfl)
  simp only [Act.put, List.getElem_toArray, List.getElem_cons_zero, List.setIfInBounds_toArray, List.set_cons_zero, List.set_cons_succ]
  refine wpAnyH_take (i := 2) (v := ?_) rfl (by kernel_rfl) (by kernel_rfl) (by kernel_rfl) (fun _ _ _ h => h) (Or.inl ⟨by kernel_rfl, ?_⟩) (by assumption) ?_
  rotate_left 1
  · (intro w hSw; obtain ⟨hk1, hk2⟩ := hSw; go_simp <;> with_reducible rfl)
  simp only [Act.put, List.getElem_toArray, List.getElem_cons_zero, List.getElem_cons_succ, List.setIfInBounds_toArray, List.set_cons_zero, List.set_cons_succ]
  refine wpAnyH_take (i := 3) (v := ?_) rfl (by kernel_rfl) (by kernel_rfl) (by kernel_rfl) (fun _ _ _ h => h) (Or.inl ⟨by kernel_rfl, ?_⟩) (by assumption) ?_
  rotate_left 1
  · (intro w hSw; obtain ⟨hk1, hk2⟩ := hSw; go_simp <;> with_reducible rfl)
  simp only [Act.put, List.getElem_toArray, List.getElem_cons_zero, List.getElem_cons_succ, List.setIfInBounds_toArray, List.set_cons_zero, List.set_cons_succ]
  refine wpAnyH_take (i := 4) (v := ?_) rfl (by kernel_rfl) (by kernel_rfl) (by kernel_rfl) (fun _ _ _ h => h) (Or.inl ⟨by kernel_rfl, ?_⟩) (by assumption) ?_
  rotate_left 1
  · (intro w hSw; obtain ⟨hk1, hk2⟩ := hSw; go_simp <;> with_reducible rfl)
  simp only [Act.put, List.getElem_toArray, List.getElem_cons_zero, List.getElem_cons_succ, List.setIfInBounds_toArray, List.set_cons_zero, List.set_cons_succ]
  refine nextH (i := 1) (by kernel_rfl) rfl (fun K hK => ?_)
  go_simp
  refine (HCP.out _ (hr2.bel hSd.2)).mono ?_
  rintro e_ wp ⟨⟨Ap, cp, rfl, rap, rcp⟩, hbp⟩
  have hS' := kp (bel_tr hSd.2 hSd.2.size hbp)
  try dsimp only
  refine hK _ _ hS' ?_
  clear hK K hSd
  have hSd := hS'
  clear hS'
  refine nextH (i := 5) (by kernel_rfl) rfl (fun K hK => ?_)
  go_simp
  refine (HIS.out _ _ _ rap).mono ?_
  rintro e_ w3 ⟨⟨A3, c3, rfl, rx3⟩, hb3⟩
  have hS' := kp (bel_tr hSd.2 hSd.2.size hb3)
  try dsimp only
  refine hK _ _ hS' ?_
  clear hK K hSd
  have hSd := hS'
  clear hS'
  refine wpAnyH_take (i := 6) (v := ?_) rfl (by kernel_rfl) (by kernel_rfl) (by kernel_rfl) (fun _ _ _ h => h) (Or.inl ⟨by kernel_rfl, ?_⟩) (by assumption) ?_
  rotate_left 1
  · (intro w hSw; obtain ⟨hk1, hk2⟩ := hSw; go_simp <;> with_reducible rfl)
  simp only [Act.put, List.getElem_toArray, List.getElem_cons_zero, List.getElem_cons_succ, List.setIfInBounds_toArray, List.set_cons_zero, List.set_cons_succ]
  refine wpAnyH_take (i := 7) (v := ?_) rfl (by kernel_rfl) (by kernel_rfl) (by kernel_rfl) (fun _ _ _ h => h) (Or.inl ⟨by kernel_rfl, ?_⟩) (by assumption) ?_
  rotate_left 1
  · (intro w hSw; obtain ⟨hk1, hk2⟩ := hSw; go_simp <;> with_reducible rfl)
  simp only [Act.put, List.getElem_toArray, List.getElem_cons_zero, List.getElem_cons_succ, List.setIfInBounds_toArray, List.set_cons_zero, List.set_cons_succ]
  refine wpAnyH_take (i := 8) (v := ?_) rfl (by kernel_rfl) (by kernel_rfl) (by kernel_rfl) (fun _ _ _ h => h) (Or.inl ⟨by kernel_rfl, ?_⟩) (by assumption) ?_
  rotate_left 1
  · (intro w hSw; obtain ⟨hk1, hk2⟩ := hSw; go_simp <;> with_reducible rfl)
  simp only [Act.put, List.getElem_toArray, List.getElem_cons_zero, List.getElem_cons_succ, List.setIfInBounds_toArray, List.set_cons_zero, List.set_cons_succ]
  refine wpAnyH_take (i := 9) (v := ?_) rfl (by kernel_rfl) (by kernel_rfl) (by kernel_rfl) (fun _ _ _ h => h) (Or.inl ⟨by kernel_rfl, ?_⟩) (by assumption) ?_
  rotate_left 1
  · (intro w hSw; obtain ⟨hk1, hk2⟩ := hSw; go_simp <;> with_reducible rfl)
  simp only [Act.put, List.getElem_toArray, List.getElem_cons_zero, List.getElem_cons_succ, List.setIfInBounds_toArray, List.set_cons_zero, List.set_cons_succ]
  refine wpAnyH_take (i := 10) (v := ?_) rfl (by kernel_rfl) (by kernel_rfl) (by kernel_rfl) (fun _ _ _ h => h) (Or.inl ⟨by kernel_rfl, ?_⟩) (by assumption) ?_
  rotate_left 1
  · (intro w hSw; obtain ⟨hk1, hk2⟩ := hSw; go_simp <;> with_reducible rfl)
  simp only [Act.put, List.getElem_toArray, List.getElem_cons_zero, List.getElem_cons_succ, List.setIfInBounds_toArray, List.set_cons_zero, List.set_cons_succ]
  refine wpAnyH_done (by kernel_rfl) ?_ _
  have hb2_3 : Below w2.heap.size w2 w3 := hSd.2
  have kS3 := kS2.bel hb2_3
  have kF3 := kF2.bel hb2_3
  have kL3 := kL2.bel hb2_3
  have hr3 := hr2.bel hb2_3
  have hB3 : Below q w w3 := hB2.trans (hb2_3.mono z2)
  have z3 : q ≤ w3.heap.size := by have := hb2_3.size; omega
  have ykS_3 := kS3.lt
  have ykF_3 := kF3.lt
  have ykL_3 := kL3.lt
  clear s0 s1 t0 t1 t2 u0 u1 u2 hB2 z2 hb2_3 kS2 kF2 kL2 hr2 ykS_2 ykF_2 ykL_2
  have s0 := kS3.cell 0; have s1 := kS3.cell 1; simp only [List.getElem?_cons_zero, List.getElem?_cons_succ] at s0 s1
  have t0 := kF3.cell 0; have t1 := kF3.cell 1; have t2 := kF3.cell 2; simp only [List.getElem?_cons_zero, List.getElem?_cons_succ] at t0 t1 t2
  have u0 := kL3.cell 0; have u1 := kL3.cell 1; have u2 := kL3.cell 2; simp only [List.getElem?_cons_zero, List.getElem?_cons_succ] at u0 u1 u2
  clear hSd hbp hb3 rap rcp
  go_upto_region 6 with fail
  have hSd : (∀ b o, b < w3.heap.size → w3.drew.cell? ⟨b, o, none⟩ = w3.cell? ⟨b, o, none⟩) ∧ Below w3.heap.size w3 w3.drew := kp (Below.refl _ _).drew
  refine wp_region_held (S := fun w' => (∀ b o, b < w3.heap.size → w'.cell? ⟨b, o, none⟩ = w3.cell? ⟨b, o, none⟩) ∧ Below w3.heap.size w3 w') (by kernel_rfl) ?_
  change wpAnyH _ _ _ _ _ _ _ _ w3.drew
  refine wpAnyH_take (i := 0) (v := ?_) rfl (by kernel_rfl) (by kernel_rfl) (by kernel_rfl) (fun _ _ _ h => h) (Or.inl ⟨by kernel_rfl, ?_⟩) (by assumption) ?_
  rotate_left 1
  · (intro w hSw; obtain ⟨hk1, hk2⟩ := hSw; go_simp <;> with_reducible rfl)
  simp only [Act.put, List.getElem_toArray, List.getElem_cons_zero, List.setIfInBounds_toArray, List.set_cons_zero, List.set_cons_succ]
  refine wpAnyH_take (i := 2) (v := ?_) rfl (by kernel_rfl) (by kernel_rfl) (by kernel_rfl) (fun _ _ _ h => h) (Or.inl ⟨by kernel_rfl, ?_⟩) (by assumption) ?_
  rotate_left 1
  · (intro w hSw; obtain ⟨hk1, hk2⟩ := hSw; go_simp <;> with_reducible rfl)
  simp only [Act.put, List.getElem_toArray, List.getElem_cons_zero, List.getElem_cons_succ, List.setIfInBounds_toArray, List.set_cons_zero, List.set_cons_succ]
  refine wpAnyH_take (i := 3) (v := ?_) rfl (by kernel_rfl) (by kernel_rfl) (by kernel_rfl) (fun _ _ _ h => h) (Or.inl ⟨by kernel_rfl, ?_⟩) (by assumption) ?_
  rotate_left 1
  · (intro w hSw; obtain ⟨hk1, hk2⟩ := hSw; go_simp <;> with_reducible rfl)
  simp only [Act.put, List.getElem_toArray, List.getElem_cons_zero, List.getElem_cons_succ, List.setIfInBounds_toArray, List.set_cons_zero, List.set_cons_succ]
  refine nextH (i := 1) (by kernel_rfl) rfl (fun K hK => ?_)
  go_simp
  refine (HCP.out _ (hr3.bel hSd.2)).mono ?_
  rintro e_ wp ⟨⟨Ap, cp, rfl, rap, rcp⟩, hbp⟩
  have hS' := kp (bel_tr hSd.2 hSd.2.size hbp)
  try dsimp only
  refine hK _ _ hS' ?_
  clear hK K hSd
  have hSd := hS'
  clear hS'
  refine nextH (i := 4) (by kernel_rfl) rfl (fun K hK => ?_)
  go_simp
  refine (HRW.out _ _ _ rap).mono ?_
  rintro e_ w4 ⟨rfl, hb4⟩
  have hS' := kp (bel_tr hSd.2 hSd.2.size hb4)
  try dsimp only
  refine hK _ _ hS' ?_
  clear hK K hSd
  have hSd := hS'
  clear hS'
  refine wpAnyH_take (i := 5) (v := ?_) rfl (by kernel_rfl) (by kernel_rfl) (by kernel_rfl) (fun _ _ _ h => h) (Or.inl ⟨by kernel_rfl, ?_⟩) (by assumption) ?_
  rotate_left 1
  · (intro w hSw; obtain ⟨hk1, hk2⟩ := hSw; go_simp <;> with_reducible rfl)
  simp only [Act.put, List.getElem_toArray, List.getElem_cons_zero, List.getElem_cons_succ, List.setIfInBounds_toArray, List.set_cons_zero, List.set_cons_succ]
  refine wpAnyH_take (i := 6) (v := ?_) rfl (by kernel_rfl) (by kernel_rfl) (by kernel_rfl) (fun _ _ _ h => h) (Or.inl ⟨by kernel_rfl, ?_⟩) (by assumption) ?_
  rotate_left 1
  · (intro w hSw; obtain ⟨hk1, hk2⟩ := hSw; go_simp <;> with_reducible rfl)
  simp only [Act.put, List.getElem_toArray, List.getElem_cons_zero, List.getElem_cons_succ, List.setIfInBounds_toArray, List.set_cons_zero, List.set_cons_succ]
  refine wpAnyH_take (i := 7) (v := ?_) rfl (by kernel_rfl) (by kernel_rfl) (by kernel_rfl) (fun _ _ _ h => h) (Or.inl ⟨by kernel_rfl, ?_⟩) (by assumption) ?_
  rotate_left 1
  · (intro w hSw; obtain ⟨hk1, hk2⟩ := hSw; go_simp <;> with_reducible rfl)
  simp only [Act.put, List.getElem_toArray, List.getElem_cons_zero, List.getElem_cons_succ, List.setIfInBounds_toArray, List.set_cons_zero, List.set_cons_succ]
  refine wpAnyH_take (i := 8) (v := ?_) rfl (by kernel_rfl) (by kernel_rfl) (by kernel_rfl) (fun _ _ _ h => h) (Or.inl ⟨by kernel_rfl, ?_⟩) (by assumption) ?_
  rotate_left 1
  · (intro w hSw; obtain ⟨hk1, hk2⟩ := hSw; go_simp <;> with_reducible rfl)
  simp only [Act.put, List.getElem_toArray, List.getElem_cons_zero, List.getElem_cons_succ, List.setIfInBounds_toArray, List.set_cons_zero, List.set_cons_succ]
  refine wpAnyH_take (i := 9) (v := ?_) rfl (by kernel_rfl) (by kernel_rfl) (by kernel_rfl) (fun _ _ _ h => h) (Or.inl ⟨by kernel_rfl, ?_⟩) (by assumption) ?_
  rotate_left 1
  · (intro w hSw; obtain ⟨hk1, hk2⟩ := hSw; go_simp <;> with_reducible rfl)
  simp only [Act.put, List.getElem_toArray, List.getElem_cons_zero, List.getElem_cons_succ, List.setIfInBounds_toArray, List.set_cons_zero, List.set_cons_succ]
  refine wpAnyH_done (by kernel_rfl) ?_ _
  have hb3_4 : Below w3.heap.size w3 w4 := hSd.2
  have kS4 := kS3.bel hb3_4
  have kF4 := kF3.bel hb3_4
  have kL4 := kL3.bel hb3_4
  have hr4 := hr3.bel hb3_4
  have rx4 := rx3.bel hb3_4
  have hB4 : Below q w w4 := hB3.trans (hb3_4.mono z3)
  have z4 : q ≤ w4.heap.size := by have := hb3_4.size; omega
  have ykS_4 := kS4.lt
  have ykF_4 := kF4.lt
  have ykL_4 := kL4.lt
  clear s0 s1 t0 t1 t2 u0 u1 u2 hB3 z3 hb3_4 kS3 kF3 kL3 hr3 rx3 ykS_3 ykF_3 ykL_3
  have s0 := kS4.cell 0; have s1 := kS4.cell 1; simp only [List.getElem?_cons_zero, List.getElem?_cons_succ] at s0 s1
  have t0 := kF4.cell 0; have t1 := kF4.cell 1; have t2 := kF4.cell 2; simp only [List.getElem?_cons_zero, List.getElem?_cons_succ] at t0 t1 t2
  have u0 := kL4.cell 0; have u1 := kL4.cell 1; have u2 := kL4.cell 2; simp only [List.getElem?_cons_zero, List.getElem?_cons_succ] at u0 u1 u2
  clear hSd hbp hb4 rap rcp
  go_upto_region 8 with (go_at_call 71; refine (HXE.out _).mono ?_; rintro e_ w5 ⟨rfl, hb5⟩)
  have hb4_5 : Below w4.heap.size w4 w5 := hb5
  have kS5 := kS4.bel hb4_5
  have kF5 := kF4.bel hb4_5
  have kL5 := kL4.bel hb4_5
  have hr5 := hr4.bel hb4_5
  have rx5 := rx4.bel hb4_5
  have hB5 : Below q w w5 := hB4.trans (hb4_5.mono z4)
  have z5 : q ≤ w5.heap.size := by have := hb4_5.size; omega
  have ykS_5 := kS5.lt
  have ykF_5 := kF5.lt
  have ykL_5 := kL5.lt
  clear s0 s1 t0 t1 t2 u0 u1 u2 hB4 z4 hb4_5 kS4 kF4 kL4 hr4 rx4 ykS_4 ykF_4 ykL_4
  have s0 := kS5.cell 0; have s1 := kS5.cell 1; simp only [List.getElem?_cons_zero, List.getElem?_cons_succ] at s0 s1
  have t0 := kF5.cell 0; have t1 := kF5.cell 1; have t2 := kF5.cell 2; simp only [List.getElem?_cons_zero, List.getElem?_cons_succ] at t0 t1 t2
  have u0 := kL5.cell 0; have u1 := kL5.cell 1; have u2 := kL5.cell 2; simp only [List.getElem?_cons_zero, List.getElem?_cons_succ] at u0 u1 u2
  clear hb5
  go_upto_region 10 with (go_at_call 72; refine (HXC.out _).mono ?_; rintro e_ w6 ⟨rfl, hb6⟩)
  have hb5_6 : Below w5.heap.size w5 w6 := hb6
  have kS6 := kS5.bel hb5_6
  have kF6 := kF5.bel hb5_6
  have kL6 := kL5.bel hb5_6
  have hr6 := hr5.bel hb5_6
  have rx6 := rx5.bel hb5_6
  have hB6 : Below q w w6 := hB5.trans (hb5_6.mono z5)
  have z6 : q ≤ w6.heap.size := by have := hb5_6.size; omega
  have ykS_6 := kS6.lt
  have ykF_6 := kF6.lt
  have ykL_6 := kL6.lt
  clear s0 s1 t0 t1 t2 u0 u1 u2 hB5 z5 hb5_6 kS5 kF5 kL5 hr5 rx5 ykS_5 ykF_5 ykL_5
  have s0 := kS6.cell 0; have s1 := kS6.cell 1; simp only [List.getElem?_cons_zero, List.getElem?_cons_succ] at s0 s1
  have t0 := kF6.cell 0; have t1 := kF6.cell 1; have t2 := kF6.cell 2; simp only [List.getElem?_cons_zero, List.getElem?_cons_succ] at t0 t1 t2
  have u0 := kL6.cell 0; have u1 := kL6.cell 1; have u2 := kL6.cell 2; simp only [List.getElem?_cons_zero, List.getElem?_cons_succ] at u0 u1 u2
  clear hb6
  go_upto_region 11 with (go_at_call 53; refine (HSE.out _ hr6).mono ?_; rintro e_ w7 ⟨rfl, hb7⟩)
  have hb6_7 : Below w6.heap.size w6 w7 := hb7
  have kS7 := kS6.bel hb6_7
  have kF7 := kF6.bel hb6_7
  have kL7 := kL6.bel hb6_7
  have hr7 := hr6.bel hb6_7
  have rx7 := rx6.bel hb6_7
  have hB7 : Below q w w7 := hB6.trans (hb6_7.mono z6)
  have z7 : q ≤ w7.heap.size := by have := hb6_7.size; omega
  have ykS_7 := kS7.lt
  have ykF_7 := kF7.lt
  have ykL_7 := kL7.lt
  clear s0 s1 t0 t1 t2 u0 u1 u2 hB6 z6 hb6_7 kS6 kF6 kL6 hr6 rx6 ykS_6 ykF_6 ykL_6
  have s0 := kS7.cell 0; have s1 := kS7.cell 1; simp only [List.getElem?_cons_zero, List.getElem?_cons_succ] at s0 s1
  have t0 := kF7.cell 0; have t1 := kF7.cell 1; have t2 := kF7.cell 2; simp only [List.getElem?_cons_zero, List.getElem?_cons_succ] at t0 t1 t2
  have u0 := kL7.cell 0; have u1 := kL7.cell 1; have u2 := kL7.cell 2; simp only [List.getElem?_cons_zero, List.getElem?_cons_succ] at u0 u1 u2
  clear hb7
  go_upto_region 13 with (go_at_call 24; refine (HFE.out _).mono ?_; rintro e_ w_ ⟨rfl, rfl⟩)
  go_upto_region 17 with fail
  go_upto_region 19 with fail
  go_upto_region 20 with (go_at_call 53; refine (HSE.out _ hr7).mono ?_; rintro e_ w11 ⟨rfl, hb11⟩)
  have hb7_11 : Below w7.heap.size w7 w11 := hb11
  have kS11 := kS7.bel hb7_11
  have kF11 := kF7.bel hb7_11
  have kL11 := kL7.bel hb7_11
  have hr11 := hr7.bel hb7_11
  have rx11 := rx7.bel hb7_11
  have hB11 : Below q w w11 := hB7.trans (hb7_11.mono z7)
  have z11 : q ≤ w11.heap.size := by have := hb7_11.size; omega
  have ykS_11 := kS11.lt
  have ykF_11 := kF11.lt
  have ykL_11 := kL11.lt
  clear s0 s1 t0 t1 t2 u0 u1 u2 hB7 z7 hb7_11 kS7 kF7 kL7 hr7 rx7 ykS_7 ykF_7 ykL_7
  have s0 := kS11.cell 0; have s1 := kS11.cell 1; simp only [List.getElem?_cons_zero, List.getElem?_cons_succ] at s0 s1
  have t0 := kF11.cell 0; have t1 := kF11.cell 1; have t2 := kF11.cell 2; simp only [List.getElem?_cons_zero, List.getElem?_cons_succ] at t0 t1 t2
  have u0 := kL11.cell 0; have u1 := kL11.cell 1; have u2 := kL11.cell 2; simp only [List.getElem?_cons_zero, List.getElem?_cons_succ] at u0 u1 u2
  clear hb11
  go_wp2
  go_ret
  exact ⟨rfl, by first | exact hB11 | (rw [hq]; exact hB11)⟩
set_option maxHeartbeats 16000000 in
theorem fieldsLaw_010xx (H gy lo hi f n d : Int) (A : Option Addr) (c : Nat) (l : List G) (w : World) (hr : Rd w A (gs l)) (hl : l.length ≤ 14) (g1 : -9223372036854775808 ≤ n ∧ n ≤ 9223372036854775807) (g2 : d ≤ 9223372036854775807) (hs : (skyE H l).2 = 0) (hfr : freqE f ≠ 0) (hfd : fieldE gy lo hi = 0) :
    Calls Try.prog 11 #[.agg #[.int .i64 H, .slice A l.length c], .agg #[.int .i64 gy, .int .i64 lo, .int .i64 hi], .agg #[.int .i64 f, .int .i64 n, .int .i64 d]] w fun r w' => r = .returned (.bool true) ∧ Below w.heap.size w w' := by
  have HCP := hide (fun W (h : Rd W A (gs l)) => copySky_c H A c l W h (by omega))
  have HFW := hide (fun W => few_c H A c l W)
  rw [decide_eq_true (show (l.length : Int) ≤ 14 by omega)] at HFW
  have HSE := hide (fun W (h : Rd W A (gs l)) => refSkyErr_c H A c l W h (by omega))
  have HFE := hide (fun W => frequencyErr_c f W)
  have HXE := hide (fun W => refFieldErr_c gy lo hi W)
  have HXC := hide (fun W => checkField_c gy lo hi W)
  have HSH := hide (fun W => refShotErr_c f n d W g1.1 g1.2 g2)
  have HSL := hide (fun W => refSlowErr_c f gy lo hi W)
  have HIS := hide (fun A' c' W (h : Rd W A' (gs l)) => indexSpans_c H f gy lo hi A' c' l W h (by omega))
  have HRW := hide (fun A' c' W (h : Rd W A' (gs l)) => reflectsWith_c H gy lo hi f n d A' c' l W h (by omega) g1.1 g1.2 g2)
  have hshot : shotE f n d = freqE f := by unfold shotE; simp [firstE, hfr]
  have hx1 : spaE H f gy lo hi l = freqE f := by unfold spaE; simp [firstE, hs, hfr, hfd, hshot]
  have hx1n : spaE H f gy lo hi l ≠ 0 := by rw [hx1]; exact hfr
  rw [show spaN H f gy lo hi l = 0 by unfold spaN; rw [if_neg hx1n], show spaL H f gy lo hi l = [] by unfold spaL; rw [if_neg hx1n], hx1] at HIS
  clear hx1n hx1
  have hx2 : refE H gy lo hi f n d l = freqE f := by unfold refE; simp [firstE, hs, hfr, hfd, hshot]
  rw [show refQ H gy lo hi f n d l = (0, freqE f) by unfold refQ; rw [if_pos (by rw [hx2]; exact hfr), hx2]] at HRW
  clear hx2
  dsimp only at HRW
  rw [hshot] at HSH
  clear hshot
  try rw [hs] at HSE
  try rw [hs] at HFE
  try rw [hs] at HXE
  try rw [hs] at HXC
  try rw [hs] at HSH
  try rw [hs] at HSL
  try rw [hs] at HIS
  try rw [hs] at HRW
  clear hs
  generalize freqE f = ef at *
  have ef1 : (ef != 0) = true := by simpa using hfr
  have ef2 : (ef == 0) = false := by simpa using hfr
  have ef9 : ¬ ef = 0 := hfr
  clear hfr
  try rw [hfd] at HSE
  try rw [hfd] at HFE
  try rw [hfd] at HXE
  try rw [hfd] at HXC
  try rw [hfd] at HSH
  try rw [hfd] at HSL
  try rw [hfd] at HIS
  try rw [hfd] at HRW
  clear hfd
  obtain ⟨q, hq⟩ : ∃ q, w.heap.size = q := ⟨_, rfl⟩
  obtain ⟨q1, hq1⟩ : ∃ q1, q + 1 = q1 := ⟨_, rfl⟩
  obtain ⟨q2, hq2⟩ : ∃ q2, q1 + 1 = q2 := ⟨_, rfl⟩
  obtain ⟨Wa, hWa⟩ : ∃ Wa, w.alloc (.cells #[.int .i64 H, .slice A l.length c] 24) = Wa := ⟨_, rfl⟩
  have ba : Below w.heap.size w Wa := by rw [← hWa]; exact alloc_bel _ _
  have sa : Wa.heap.size = q1 := by rw [← hWa, ← hq1, ← hq]; simp
  have ka : Blk Wa q 24 [.int .i64 H, .slice A l.length c] := by rw [← hWa, ← hq]; exact Blk.new w _ [_, _]
  obtain ⟨Wb, hWb⟩ : ∃ Wb, Wa.alloc (.cells #[.int .i64 gy, .int .i64 lo, .int .i64 hi] 121) = Wb := ⟨_, rfl⟩
  have bb : Below Wa.heap.size Wa Wb := by rw [← hWb]; exact alloc_bel _ _
  have sb : Wb.heap.size = q2 := by rw [← hWb, ← hq2, ← sa]; simp
  have kb : Blk Wb q1 121 [.int .i64 gy, .int .i64 lo, .int .i64 hi] := by rw [← hWb, ← sa]; exact Blk.new Wa _ [_, _, _]
  obtain ⟨w0, hWc⟩ : ∃ w0, Wb.alloc (.cells #[.int .i64 f, .int .i64 n, .int .i64 d] 123) = w0 := ⟨_, rfl⟩
  have bc : Below Wb.heap.size Wb w0 := by rw [← hWc]; exact alloc_bel _ _
  have kL0 : Blk w0 q2 123 [.int .i64 f, .int .i64 n, .int .i64 d] := by rw [← hWc, ← sb]; exact Blk.new Wb _ [_, _, _]
  have hABC : ((w.alloc (.cells #[.int .i64 H, .slice A l.length c] 24)).alloc (.cells #[.int .i64 gy, .int .i64 lo, .int .i64 hi] 121)).alloc (.cells #[.int .i64 f, .int .i64 n, .int .i64 d] 123) = w0 := by rw [hWa, hWb, hWc]
  have HW := hide hABC
  have kS0 := (ka.bel bb).bel bc
  have kF0 := kb.bel bc
  have hr0 := ((hr.bel ba).bel bb).bel bc
  have hB0 : Below q w w0 := by
    rw [hq] at ba
    exact (ba.trans (bb.mono (by omega))).trans (bc.mono (by omega))
  have z0 : q ≤ w0.heap.size := by have := kS0.lt; omega
  clear hABC hWa hWb hWc ba bb bc ka kb sa sb
  have ykS_0 := kS0.lt
  have ykF_0 := kF0.lt
  have ykL_0 := kL0.lt
  have s0 := kS0.cell 0; have s1 := kS0.cell 1; simp only [List.getElem?_cons_zero, List.getElem?_cons_succ] at s0 s1
  have t0 := kF0.cell 0; have t1 := kF0.cell 1; have t2 := kF0.cell 2; simp only [List.getElem?_cons_zero, List.getElem?_cons_succ] at t0 t1 t2
  have u0 := kL0.cell 0; have u1 := kL0.cell 1; have u2 := kL0.cell 2; simp only [List.getElem?_cons_zero, List.getElem?_cons_succ] at u0 u1 u2
  go_enter Try.func11, Try.ntmps11
  go_upto_region 1 with fail
  try simp only [World.size_alloc, hq, hq1, hq2]
  rw [HW.out]
  go_upto_region 3 with (go_at_call 15; refine (awake_c _).mono ?_; rintro e_ w1 ⟨rfl, hb1⟩)
  have hb0_1 : Below w0.heap.size w0 w1 := hb1
  have kS1 := kS0.bel hb0_1
  have kF1 := kF0.bel hb0_1
  have kL1 := kL0.bel hb0_1
  have hr1 := hr0.bel hb0_1
  have hB1 : Below q w w1 := hB0.trans (hb0_1.mono z0)
  have z1 : q ≤ w1.heap.size := by have := hb0_1.size; omega
  have ykS_1 := kS1.lt
  have ykF_1 := kF1.lt
  have ykL_1 := kL1.lt
  clear s0 s1 t0 t1 t2 u0 u1 u2 hB0 z0 hb0_1 kS0 kF0 kL0 hr0 ykS_0 ykF_0 ykL_0
  have s0 := kS1.cell 0; have s1 := kS1.cell 1; simp only [List.getElem?_cons_zero, List.getElem?_cons_succ] at s0 s1
  have t0 := kF1.cell 0; have t1 := kF1.cell 1; have t2 := kF1.cell 2; simp only [List.getElem?_cons_zero, List.getElem?_cons_succ] at t0 t1 t2
  have u0 := kL1.cell 0; have u1 := kL1.cell 1; have u2 := kL1.cell 2; simp only [List.getElem?_cons_zero, List.getElem?_cons_succ] at u0 u1 u2
  go_upto_region 5 with (go_at_call 16; refine (HFW.out _).mono ?_; rintro e_ w2 ⟨rfl, hb2⟩)
  have hb1_2 : Below w1.heap.size w1 w2 := hb2
  have kS2 := kS1.bel hb1_2
  have kF2 := kF1.bel hb1_2
  have kL2 := kL1.bel hb1_2
  have hr2 := hr1.bel hb1_2
  have hB2 : Below q w w2 := hB1.trans (hb1_2.mono z1)
  have z2 : q ≤ w2.heap.size := by have := hb1_2.size; omega
  have ykS_2 := kS2.lt
  have ykF_2 := kF2.lt
  have ykL_2 := kL2.lt
  clear s0 s1 t0 t1 t2 u0 u1 u2 hB1 z1 hb1_2 kS1 kF1 kL1 hr1 ykS_1 ykF_1 ykL_1
  have s0 := kS2.cell 0; have s1 := kS2.cell 1; simp only [List.getElem?_cons_zero, List.getElem?_cons_succ] at s0 s1
  have t0 := kF2.cell 0; have t1 := kF2.cell 1; have t2 := kF2.cell 2; simp only [List.getElem?_cons_zero, List.getElem?_cons_succ] at t0 t1 t2
  have u0 := kL2.cell 0; have u1 := kL2.cell 1; have u2 := kL2.cell 2; simp only [List.getElem?_cons_zero, List.getElem?_cons_succ] at u0 u1 u2
  have hSd : (∀ b o, b < w2.heap.size → w2.drew.cell? ⟨b, o, none⟩ = w2.cell? ⟨b, o, none⟩) ∧ Below w2.heap.size w2 w2.drew := kp (Below.refl _ _).drew
  refine wp_region_held (S := fun w' => (∀ b o, b < w2.heap.size → w'.cell? ⟨b, o, none⟩ = w2.cell? ⟨b, o, none⟩) ∧ Below w2.heap.size w2 w') (by kernel_rfl) ?_
  change wpAnyH _ _ _ _ _ _ _ _ w2.drew
  refine wpAnyH_take (i := 0) (v := ?_) rfl (by kernel_rfl) (by kernel_rfl) (by kernel_rfl) (fun _ _ _ h => h) (Or.inl ⟨by kernel_rfl, ?_⟩) (by assumption) ?_
  rotate_left 1
  · (intro w hSw; obtain ⟨hk1, hk2⟩ := hSw; go_simp <;> with_reducible rfl)
  simp only [Act.put, List.getElem_toArray, List.getElem_cons_zero, List.setIfInBounds_toArray, List.set_cons_zero, List.set_cons_succ]
  refine wpAnyH_take (i := 2) (v := ?_) rfl (by kernel_rfl) (by kernel_rfl) (by kernel_rfl) (fun _ _ _ h => h) (Or.inl ⟨by kernel_rfl, ?_⟩) (by assumption) ?_
  rotate_left 1
  · (intro w hSw; obtain ⟨hk1, hk2⟩ := hSw; go_simp <;> with_reducible rfl)
  simp only [Act.put, List.getElem_toArray, List.getElem_cons_zero, List.getElem_cons_succ, List.setIfInBounds_toArray, List.set_cons_zero, List.set_cons_succ]
  refine wpAnyH_take (i := 3) (v := ?_) rfl (by kernel_rfl) (by kernel_rfl) (by kernel_rfl) (fun _ _ _ h => h) (Or.inl ⟨by kernel_rfl, ?_⟩) (by assumption) ?_
  rotate_left 1
  · (intro w hSw; obtain ⟨hk1, hk2⟩ := hSw; go_simp <;> with_reducible rfl)
  simp only [Act.put, List.getElem_toArray, List.getElem_cons_zero, List.getElem_cons_succ, List.setIfInBounds_toArray, List.set_cons_zero, List.set_cons_succ]
  refine wpAnyH_take (i := 4) (v := ?_) rfl (by kernel_rfl) (by kernel_rfl) (by kernel_rfl) (fun _ _ _ h => h) (Or.inl ⟨by kernel_rfl, ?_⟩) (by assumption) ?_
  rotate_left 1
  · (intro w hSw; obtain ⟨hk1, hk2⟩ := hSw; go_simp <;> with_reducible rfl)
  simp only [Act.put, List.getElem_toArray, List.getElem_cons_zero, List.getElem_cons_succ, List.setIfInBounds_toArray, List.set_cons_zero, List.set_cons_succ]
  refine nextH (i := 1) (by kernel_rfl) rfl (fun K hK => ?_)
  go_simp
  refine (HCP.out _ (hr2.bel hSd.2)).mono ?_
  rintro e_ wp ⟨⟨Ap, cp, rfl, rap, rcp⟩, hbp⟩
  have hS' := kp (bel_tr hSd.2 hSd.2.size hbp)
  try dsimp only
  refine hK _ _ hS' ?_
  clear hK K hSd
  have hSd := hS'
  clear hS'
  refine nextH (i := 5) (by kernel_rfl) rfl (fun K hK => ?_)
  go_simp
  refine (HIS.out _ _ _ rap).mono ?_
  rintro e_ w3 ⟨⟨A3, c3, rfl, rx3⟩, hb3⟩
  have hS' := kp (bel_tr hSd.2 hSd.2.size hb3)
  try dsimp only
  refine hK _ _ hS' ?_
  clear hK K hSd
  have hSd := hS'
  clear hS'
  refine wpAnyH_take (i := 6) (v := ?_) rfl (by kernel_rfl) (by kernel_rfl) (by kernel_rfl) (fun _ _ _ h => h) (Or.inl ⟨by kernel_rfl, ?_⟩) (by assumption) ?_
  rotate_left 1
  · (intro w hSw; obtain ⟨hk1, hk2⟩ := hSw; go_simp <;> with_reducible rfl)
  simp only [Act.put, List.getElem_toArray, List.getElem_cons_zero, List.getElem_cons_succ, List.setIfInBounds_toArray, List.set_cons_zero, List.set_cons_succ]
  refine wpAnyH_take (i := 7) (v := ?_) rfl (by kernel_rfl) (by kernel_rfl) (by kernel_rfl) (fun _ _ _ h => h) (Or.inl ⟨by kernel_rfl, ?_⟩) (by assumption) ?_
  rotate_left 1
  · (intro w hSw; obtain ⟨hk1, hk2⟩ := hSw; go_simp <;> with_reducible rfl)
  simp only [Act.put, List.getElem_toArray, List.getElem_cons_zero, List.getElem_cons_succ, List.setIfInBounds_toArray, List.set_cons_zero, List.set_cons_succ]
  refine wpAnyH_take (i := 8) (v := ?_) rfl (by kernel_rfl) (by kernel_rfl) (by kernel_rfl) (fun _ _ _ h => h) (Or.inl ⟨by kernel_rfl, ?_⟩) (by assumption) ?_
  rotate_left 1
  · (intro w hSw; obtain ⟨hk1, hk2⟩ := hSw; go_simp <;> with_reducible rfl)
  simp only [Act.put, List.getElem_toArray, List.getElem_cons_zero, List.getElem_cons_succ, List.setIfInBounds_toArray, List.set_cons_zero, List.set_cons_succ]
  refine wpAnyH_take (i := 9) (v := ?_) rfl (by kernel_rfl) (by kernel_rfl) (by kernel_rfl) (fun _ _ _ h => h) (Or.inl ⟨by kernel_rfl, ?_⟩) (by assumption) ?_
  rotate_left 1
  · (intro w hSw; obtain ⟨hk1, hk2⟩ := hSw; go_simp <;> with_reducible rfl)
  simp only [Act.put, List.getElem_toArray, List.getElem_cons_zero, List.getElem_cons_succ, List.setIfInBounds_toArray, List.set_cons_zero, List.set_cons_succ]
  refine wpAnyH_take (i := 10) (v := ?_) rfl (by kernel_rfl) (by kernel_rfl) (by kernel_rfl) (fun _ _ _ h => h) (Or.inl ⟨by kernel_rfl, ?_⟩) (by assumption) ?_
  rotate_left 1
  · (intro w hSw; obtain ⟨hk1, hk2⟩ := hSw; go_simp <;> with_reducible rfl)
  simp only [Act.put, List.getElem_toArray, List.getElem_cons_zero, List.getElem_cons_succ, List.setIfInBounds_toArray, List.set_cons_zero, List.set_cons_succ]
  refine wpAnyH_done (by kernel_rfl) ?_ _
  have hb2_3 : Below w2.heap.size w2 w3 := hSd.2
  have kS3 := kS2.bel hb2_3
  have kF3 := kF2.bel hb2_3
  have kL3 := kL2.bel hb2_3
  have hr3 := hr2.bel hb2_3
  have hB3 : Below q w w3 := hB2.trans (hb2_3.mono z2)
  have z3 : q ≤ w3.heap.size := by have := hb2_3.size; omega
  have ykS_3 := kS3.lt
  have ykF_3 := kF3.lt
  have ykL_3 := kL3.lt
  clear s0 s1 t0 t1 t2 u0 u1 u2 hB2 z2 hb2_3 kS2 kF2 kL2 hr2 ykS_2 ykF_2 ykL_2
  have s0 := kS3.cell 0; have s1 := kS3.cell 1; simp only [List.getElem?_cons_zero, List.getElem?_cons_succ] at s0 s1
  have t0 := kF3.cell 0; have t1 := kF3.cell 1; have t2 := kF3.cell 2; simp only [List.getElem?_cons_zero, List.getElem?_cons_succ] at t0 t1 t2
  have u0 := kL3.cell 0; have u1 := kL3.cell 1; have u2 := kL3.cell 2; simp only [List.getElem?_cons_zero, List.getElem?_cons_succ] at u0 u1 u2
  clear hSd hbp hb3 rap rcp
  go_upto_region 6 with fail
  have hSd : (∀ b o, b < w3.heap.size → w3.drew.cell? ⟨b, o, none⟩ = w3.cell? ⟨b, o, none⟩) ∧ Below w3.heap.size w3 w3.drew := kp (Below.refl _ _).drew
  refine wp_region_held (S := fun w' => (∀ b o, b < w3.heap.size → w'.cell? ⟨b, o, none⟩ = w3.cell? ⟨b, o, none⟩) ∧ Below w3.heap.size w3 w') (by kernel_rfl) ?_
  change wpAnyH _ _ _ _ _ _ _ _ w3.drew
  refine wpAnyH_take (i := 0) (v := ?_) rfl (by kernel_rfl) (by kernel_rfl) (by kernel_rfl) (fun _ _ _ h => h) (Or.inl ⟨by kernel_rfl, ?_⟩) (by assumption) ?_
  rotate_left 1
  · (intro w hSw; obtain ⟨hk1, hk2⟩ := hSw; go_simp <;> with_reducible rfl)
  simp only [Act.put, List.getElem_toArray, List.getElem_cons_zero, List.setIfInBounds_toArray, List.set_cons_zero, List.set_cons_succ]
  refine wpAnyH_take (i := 2) (v := ?_) rfl (by kernel_rfl) (by kernel_rfl) (by kernel_rfl) (fun _ _ _ h => h) (Or.inl ⟨by kernel_rfl, ?_⟩) (by assumption) ?_
  rotate_left 1
  · (intro w hSw; obtain ⟨hk1, hk2⟩ := hSw; go_simp <;> with_reducible rfl)
  simp only [Act.put, List.getElem_toArray, List.getElem_cons_zero, List.getElem_cons_succ, List.setIfInBounds_toArray, List.set_cons_zero, List.set_cons_succ]
  refine wpAnyH_take (i := 3) (v := ?_) rfl (by kernel_rfl) (by kernel_rfl) (by kernel_rfl) (fun _ _ _ h => h) (Or.inl ⟨by kernel_rfl, ?_⟩) (by assumption) ?_
  rotate_left 1
  · (intro w hSw; obtain ⟨hk1, hk2⟩ := hSw; go_simp <;> with_reducible rfl)
  simp only [Act.put, List.getElem_toArray, List.getElem_cons_zero, List.getElem_cons_succ, List.setIfInBounds_toArray, List.set_cons_zero, List.set_cons_succ]
  refine nextH (i := 1) (by kernel_rfl) rfl (fun K hK => ?_)
  go_simp
  refine (HCP.out _ (hr3.bel hSd.2)).mono ?_
  rintro e_ wp ⟨⟨Ap, cp, rfl, rap, rcp⟩, hbp⟩
  have hS' := kp (bel_tr hSd.2 hSd.2.size hbp)
  try dsimp only
  refine hK _ _ hS' ?_
  clear hK K hSd
  have hSd := hS'
  clear hS'
  refine nextH (i := 4) (by kernel_rfl) rfl (fun K hK => ?_)
  go_simp
  refine (HRW.out _ _ _ rap).mono ?_
  rintro e_ w4 ⟨rfl, hb4⟩
  have hS' := kp (bel_tr hSd.2 hSd.2.size hb4)
  try dsimp only
  refine hK _ _ hS' ?_
  clear hK K hSd
  have hSd := hS'
  clear hS'
  refine wpAnyH_take (i := 5) (v := ?_) rfl (by kernel_rfl) (by kernel_rfl) (by kernel_rfl) (fun _ _ _ h => h) (Or.inl ⟨by kernel_rfl, ?_⟩) (by assumption) ?_
  rotate_left 1
  · (intro w hSw; obtain ⟨hk1, hk2⟩ := hSw; go_simp <;> with_reducible rfl)
  simp only [Act.put, List.getElem_toArray, List.getElem_cons_zero, List.getElem_cons_succ, List.setIfInBounds_toArray, List.set_cons_zero, List.set_cons_succ]
  refine wpAnyH_take (i := 6) (v := ?_) rfl (by kernel_rfl) (by kernel_rfl) (by kernel_rfl) (fun _ _ _ h => h) (Or.inl ⟨by kernel_rfl, ?_⟩) (by assumption) ?_
  rotate_left 1
  · (intro w hSw; obtain ⟨hk1, hk2⟩ := hSw; go_simp <;> with_reducible rfl)
  simp only [Act.put, List.getElem_toArray, List.getElem_cons_zero, List.getElem_cons_succ, List.setIfInBounds_toArray, List.set_cons_zero, List.set_cons_succ]
  refine wpAnyH_take (i := 7) (v := ?_) rfl (by kernel_rfl) (by kernel_rfl) (by kernel_rfl) (fun _ _ _ h => h) (Or.inl ⟨by kernel_rfl, ?_⟩) (by assumption) ?_
  rotate_left 1
  · (intro w hSw; obtain ⟨hk1, hk2⟩ := hSw; go_simp <;> with_reducible rfl)
  simp only [Act.put, List.getElem_toArray, List.getElem_cons_zero, List.getElem_cons_succ, List.setIfInBounds_toArray, List.set_cons_zero, List.set_cons_succ]
  refine wpAnyH_take (i := 8) (v := ?_) rfl (by kernel_rfl) (by kernel_rfl) (by kernel_rfl) (fun _ _ _ h => h) (Or.inl ⟨by kernel_rfl, ?_⟩) (by assumption) ?_
  rotate_left 1
  · (intro w hSw; obtain ⟨hk1, hk2⟩ := hSw; go_simp <;> with_reducible rfl)
  simp only [Act.put, List.getElem_toArray, List.getElem_cons_zero, List.getElem_cons_succ, List.setIfInBounds_toArray, List.set_cons_zero, List.set_cons_succ]
  refine wpAnyH_take (i := 9) (v := ?_) rfl (by kernel_rfl) (by kernel_rfl) (by kernel_rfl) (fun _ _ _ h => h) (Or.inl ⟨by kernel_rfl, ?_⟩) (by assumption) ?_
  rotate_left 1
  · (intro w hSw; obtain ⟨hk1, hk2⟩ := hSw; go_simp <;> with_reducible rfl)
  simp only [Act.put, List.getElem_toArray, List.getElem_cons_zero, List.getElem_cons_succ, List.setIfInBounds_toArray, List.set_cons_zero, List.set_cons_succ]
  refine wpAnyH_done (by kernel_rfl) ?_ _
  have hb3_4 : Below w3.heap.size w3 w4 := hSd.2
  have kS4 := kS3.bel hb3_4
  have kF4 := kF3.bel hb3_4
  have kL4 := kL3.bel hb3_4
  have hr4 := hr3.bel hb3_4
  have rx4 := rx3.bel hb3_4
  have hB4 : Below q w w4 := hB3.trans (hb3_4.mono z3)
  have z4 : q ≤ w4.heap.size := by have := hb3_4.size; omega
  have ykS_4 := kS4.lt
  have ykF_4 := kF4.lt
  have ykL_4 := kL4.lt
  clear s0 s1 t0 t1 t2 u0 u1 u2 hB3 z3 hb3_4 kS3 kF3 kL3 hr3 rx3 ykS_3 ykF_3 ykL_3
  have s0 := kS4.cell 0; have s1 := kS4.cell 1; simp only [List.getElem?_cons_zero, List.getElem?_cons_succ] at s0 s1
  have t0 := kF4.cell 0; have t1 := kF4.cell 1; have t2 := kF4.cell 2; simp only [List.getElem?_cons_zero, List.getElem?_cons_succ] at t0 t1 t2
  have u0 := kL4.cell 0; have u1 := kL4.cell 1; have u2 := kL4.cell 2; simp only [List.getElem?_cons_zero, List.getElem?_cons_succ] at u0 u1 u2
  clear hSd hbp hb4 rap rcp
  go_upto_region 8 with (go_at_call 71; refine (HXE.out _).mono ?_; rintro e_ w5 ⟨rfl, hb5⟩)
  have hb4_5 : Below w4.heap.size w4 w5 := hb5
  have kS5 := kS4.bel hb4_5
  have kF5 := kF4.bel hb4_5
  have kL5 := kL4.bel hb4_5
  have hr5 := hr4.bel hb4_5
  have rx5 := rx4.bel hb4_5
  have hB5 : Below q w w5 := hB4.trans (hb4_5.mono z4)
  have z5 : q ≤ w5.heap.size := by have := hb4_5.size; omega
  have ykS_5 := kS5.lt
  have ykF_5 := kF5.lt
  have ykL_5 := kL5.lt
  clear s0 s1 t0 t1 t2 u0 u1 u2 hB4 z4 hb4_5 kS4 kF4 kL4 hr4 rx4 ykS_4 ykF_4 ykL_4
  have s0 := kS5.cell 0; have s1 := kS5.cell 1; simp only [List.getElem?_cons_zero, List.getElem?_cons_succ] at s0 s1
  have t0 := kF5.cell 0; have t1 := kF5.cell 1; have t2 := kF5.cell 2; simp only [List.getElem?_cons_zero, List.getElem?_cons_succ] at t0 t1 t2
  have u0 := kL5.cell 0; have u1 := kL5.cell 1; have u2 := kL5.cell 2; simp only [List.getElem?_cons_zero, List.getElem?_cons_succ] at u0 u1 u2
  clear hb5
  go_upto_region 10 with (go_at_call 72; refine (HXC.out _).mono ?_; rintro e_ w6 ⟨rfl, hb6⟩)
  have hb5_6 : Below w5.heap.size w5 w6 := hb6
  have kS6 := kS5.bel hb5_6
  have kF6 := kF5.bel hb5_6
  have kL6 := kL5.bel hb5_6
  have hr6 := hr5.bel hb5_6
  have rx6 := rx5.bel hb5_6
  have hB6 : Below q w w6 := hB5.trans (hb5_6.mono z5)
  have z6 : q ≤ w6.heap.size := by have := hb5_6.size; omega
  have ykS_6 := kS6.lt
  have ykF_6 := kF6.lt
  have ykL_6 := kL6.lt
  clear s0 s1 t0 t1 t2 u0 u1 u2 hB5 z5 hb5_6 kS5 kF5 kL5 hr5 rx5 ykS_5 ykF_5 ykL_5
  have s0 := kS6.cell 0; have s1 := kS6.cell 1; simp only [List.getElem?_cons_zero, List.getElem?_cons_succ] at s0 s1
  have t0 := kF6.cell 0; have t1 := kF6.cell 1; have t2 := kF6.cell 2; simp only [List.getElem?_cons_zero, List.getElem?_cons_succ] at t0 t1 t2
  have u0 := kL6.cell 0; have u1 := kL6.cell 1; have u2 := kL6.cell 2; simp only [List.getElem?_cons_zero, List.getElem?_cons_succ] at u0 u1 u2
  clear hb6
  go_upto_region 11 with (go_at_call 53; refine (HSE.out _ hr6).mono ?_; rintro e_ w7 ⟨rfl, hb7⟩)
  have hb6_7 : Below w6.heap.size w6 w7 := hb7
  have kS7 := kS6.bel hb6_7
  have kF7 := kF6.bel hb6_7
  have kL7 := kL6.bel hb6_7
  have hr7 := hr6.bel hb6_7
  have rx7 := rx6.bel hb6_7
  have hB7 : Below q w w7 := hB6.trans (hb6_7.mono z6)
  have z7 : q ≤ w7.heap.size := by have := hb6_7.size; omega
  have ykS_7 := kS7.lt
  have ykF_7 := kF7.lt
  have ykL_7 := kL7.lt
  clear s0 s1 t0 t1 t2 u0 u1 u2 hB6 z6 hb6_7 kS6 kF6 kL6 hr6 rx6 ykS_6 ykF_6 ykL_6
  have s0 := kS7.cell 0; have s1 := kS7.cell 1; simp only [List.getElem?_cons_zero, List.getElem?_cons_succ] at s0 s1
  have t0 := kF7.cell 0; have t1 := kF7.cell 1; have t2 := kF7.cell 2; simp only [List.getElem?_cons_zero, List.getElem?_cons_succ] at t0 t1 t2
  have u0 := kL7.cell 0; have u1 := kL7.cell 1; have u2 := kL7.cell 2; simp only [List.getElem?_cons_zero, List.getElem?_cons_succ] at u0 u1 u2
  clear hb7
  go_upto_region 13 with (go_at_call 24; refine (HFE.out _).mono ?_; rintro e_ w_ ⟨rfl, rfl⟩)
  go_upto_region 17 with fail
  go_upto_region 19 with fail
  go_upto_region 20 with (go_at_call 53; refine (HSE.out _ hr7).mono ?_; rintro e_ w11 ⟨rfl, hb11⟩)
  have hb7_11 : Below w7.heap.size w7 w11 := hb11
  have kS11 := kS7.bel hb7_11
  have kF11 := kF7.bel hb7_11
  have kL11 := kL7.bel hb7_11
  have hr11 := hr7.bel hb7_11
  have rx11 := rx7.bel hb7_11
  have hB11 : Below q w w11 := hB7.trans (hb7_11.mono z7)
  have z11 : q ≤ w11.heap.size := by have := hb7_11.size; omega
  have ykS_11 := kS11.lt
  have ykF_11 := kF11.lt
  have ykL_11 := kL11.lt
  clear s0 s1 t0 t1 t2 u0 u1 u2 hB7 z7 hb7_11 kS7 kF7 kL7 hr7 rx7 ykS_7 ykF_7 ykL_7
  have s0 := kS11.cell 0; have s1 := kS11.cell 1; simp only [List.getElem?_cons_zero, List.getElem?_cons_succ] at s0 s1
  have t0 := kF11.cell 0; have t1 := kF11.cell 1; have t2 := kF11.cell 2; simp only [List.getElem?_cons_zero, List.getElem?_cons_succ] at t0 t1 t2
  have u0 := kL11.cell 0; have u1 := kL11.cell 1; have u2 := kL11.cell 2; simp only [List.getElem?_cons_zero, List.getElem?_cons_succ] at u0 u1 u2
  clear hb11
  go_upto_region 24 with (go_at_call 76; refine (HSH.out _).mono ?_; rintro e_ w12 ⟨rfl, hb12⟩)
  have hb11_12 : Below w11.heap.size w11 w12 := hb12
  have kS12 := kS11.bel hb11_12
  have kF12 := kF11.bel hb11_12
  have kL12 := kL11.bel hb11_12
  have hr12 := hr11.bel hb11_12
  have rx12 := rx11.bel hb11_12
  have hB12 : Below q w w12 := hB11.trans (hb11_12.mono z11)
  have z12 : q ≤ w12.heap.size := by have := hb11_12.size; omega
  have ykS_12 := kS12.lt
  have ykF_12 := kF12.lt
  have ykL_12 := kL12.lt
  clear s0 s1 t0 t1 t2 u0 u1 u2 hB11 z11 hb11_12 kS11 kF11 kL11 hr11 rx11 ykS_11 ykF_11 ykL_11
  have s0 := kS12.cell 0; have s1 := kS12.cell 1; simp only [List.getElem?_cons_zero, List.getElem?_cons_succ] at s0 s1
  have t0 := kF12.cell 0; have t1 := kF12.cell 1; have t2 := kF12.cell 2; simp only [List.getElem?_cons_zero, List.getElem?_cons_succ] at t0 t1 t2
  have u0 := kL12.cell 0; have u1 := kL12.cell 1; have u2 := kL12.cell 2; simp only [List.getElem?_cons_zero, List.getElem?_cons_succ] at u0 u1 u2
  clear hb12
  go_wp2
  go_ret
  exact ⟨rfl, by first | exact hB12 | (rw [hq]; exact hB12)⟩
end Go.Proofs.Ytkcjiejdjdcbeaa

/- The law of fields, ways b. -/
set_option linter.unusedSimpArgs false
set_option linter.unusedVariables false
namespace Go.Proofs.Ytkcjiejdjdcbeaa
open Go.RowKit
set_option maxRecDepth 100000

theorem firstE_01b (e : Int) : firstE [0, e] = e := by by_cases h : e = 0 <;> simp [firstE, h]
set_option maxHeartbeats 16000000 in
theorem fieldsLaw_001xx (H gy lo hi f n d : Int) (A : Option Addr) (c : Nat) (l : List G) (w : World) (hr : Rd w A (gs l)) (hl : l.length ≤ 14) (g1 : -9223372036854775808 ≤ n ∧ n ≤ 9223372036854775807) (g2 : d ≤ 9223372036854775807) (hs : (skyE H l).2 = 0) (hfr : freqE f = 0) (hfd : fieldE gy lo hi ≠ 0) :
    Calls Try.prog 11 #[.agg #[.int .i64 H, .slice A l.length c], .agg #[.int .i64 gy, .int .i64 lo, .int .i64 hi], .agg #[.int .i64 f, .int .i64 n, .int .i64 d]] w fun r w' => r = .returned (.bool true) ∧ Below w.heap.size w w' := by
  have HCP := hide (fun W (h : Rd W A (gs l)) => copySky_c H A c l W h (by omega))
  have HFW := hide (fun W => few_c H A c l W)
  rw [decide_eq_true (show (l.length : Int) ≤ 14 by omega)] at HFW
  have HSE := hide (fun W (h : Rd W A (gs l)) => refSkyErr_c H A c l W h (by omega))
  have HFE := hide (fun W => frequencyErr_c f W)
  have HXE := hide (fun W => refFieldErr_c gy lo hi W)
  have HXC := hide (fun W => checkField_c gy lo hi W)
  have HSH := hide (fun W => refShotErr_c f n d W g1.1 g1.2 g2)
  have HSL := hide (fun W => refSlowErr_c f gy lo hi W)
  have HIS := hide (fun A' c' W (h : Rd W A' (gs l)) => indexSpans_c H f gy lo hi A' c' l W h (by omega))
  have HRW := hide (fun A' c' W (h : Rd W A' (gs l)) => reflectsWith_c H gy lo hi f n d A' c' l W h (by omega) g1.1 g1.2 g2)
  have hx1 : spaE H f gy lo hi l = fieldE gy lo hi := by unfold spaE; simp [firstE, hs, hfr, hfd]
  have hx1n : spaE H f gy lo hi l ≠ 0 := by rw [hx1]; exact hfd
  rw [show spaN H f gy lo hi l = 0 by unfold spaN; rw [if_neg hx1n], show spaL H f gy lo hi l = [] by unfold spaL; rw [if_neg hx1n], hx1] at HIS
  clear hx1n hx1
  have hx2 : refE H gy lo hi f n d l = fieldE gy lo hi := by unfold refE; simp [firstE, hs, hfr, hfd]
  rw [show refQ H gy lo hi f n d l = (0, fieldE gy lo hi) by unfold refQ; rw [if_pos (by rw [hx2]; exact hfd), hx2]] at HRW
  clear hx2
  dsimp only at HRW
  try rw [hs] at HSE
  try rw [hs] at HFE
  try rw [hs] at HXE
  try rw [hs] at HXC
  try rw [hs] at HSH
  try rw [hs] at HSL
  try rw [hs] at HIS
  try rw [hs] at HRW
  clear hs
  try rw [hfr] at HSE
  try rw [hfr] at HFE
  try rw [hfr] at HXE
  try rw [hfr] at HXC
  try rw [hfr] at HSH
  try rw [hfr] at HSL
  try rw [hfr] at HIS
  try rw [hfr] at HRW
  clear hfr
  generalize fieldE gy lo hi = ed at *
  have ed1 : (ed != 0) = true := by simpa using hfd
  have ed2 : (ed == 0) = false := by simpa using hfd
  have ed9 : ¬ ed = 0 := hfd
  clear hfd
  obtain ⟨q, hq⟩ : ∃ q, w.heap.size = q := ⟨_, rfl⟩
  obtain ⟨q1, hq1⟩ : ∃ q1, q + 1 = q1 := ⟨_, rfl⟩
  obtain ⟨q2, hq2⟩ : ∃ q2, q1 + 1 = q2 := ⟨_, rfl⟩
  obtain ⟨Wa, hWa⟩ : ∃ Wa, w.alloc (.cells #[.int .i64 H, .slice A l.length c] 24) = Wa := ⟨_, rfl⟩
  have ba : Below w.heap.size w Wa := by rw [← hWa]; exact alloc_bel _ _
  have sa : Wa.heap.size = q1 := by rw [← hWa, ← hq1, ← hq]; simp
  have ka : Blk Wa q 24 [.int .i64 H, .slice A l.length c] := by rw [← hWa, ← hq]; exact Blk.new w _ [_, _]
  obtain ⟨Wb, hWb⟩ : ∃ Wb, Wa.alloc (.cells #[.int .i64 gy, .int .i64 lo, .int .i64 hi] 121) = Wb := ⟨_, rfl⟩
  have bb : Below Wa.heap.size Wa Wb := by rw [← hWb]; exact alloc_bel _ _
  have sb : Wb.heap.size = q2 := by rw [← hWb, ← hq2, ← sa]; simp
  have kb : Blk Wb q1 121 [.int .i64 gy, .int .i64 lo, .int .i64 hi] := by rw [← hWb, ← sa]; exact Blk.new Wa _ [_, _, _]
  obtain ⟨w0, hWc⟩ : ∃ w0, Wb.alloc (.cells #[.int .i64 f, .int .i64 n, .int .i64 d] 123) = w0 := ⟨_, rfl⟩
  have bc : Below Wb.heap.size Wb w0 := by rw [← hWc]; exact alloc_bel _ _
  have kL0 : Blk w0 q2 123 [.int .i64 f, .int .i64 n, .int .i64 d] := by rw [← hWc, ← sb]; exact Blk.new Wb _ [_, _, _]
  have hABC : ((w.alloc (.cells #[.int .i64 H, .slice A l.length c] 24)).alloc (.cells #[.int .i64 gy, .int .i64 lo, .int .i64 hi] 121)).alloc (.cells #[.int .i64 f, .int .i64 n, .int .i64 d] 123) = w0 := by rw [hWa, hWb, hWc]
  have HW := hide hABC
  have kS0 := (ka.bel bb).bel bc
  have kF0 := kb.bel bc
  have hr0 := ((hr.bel ba).bel bb).bel bc
  have hB0 : Below q w w0 := by
    rw [hq] at ba
    exact (ba.trans (bb.mono (by omega))).trans (bc.mono (by omega))
  have z0 : q ≤ w0.heap.size := by have := kS0.lt; omega
  clear hABC hWa hWb hWc ba bb bc ka kb sa sb
  have ykS_0 := kS0.lt
  have ykF_0 := kF0.lt
  have ykL_0 := kL0.lt
  have s0 := kS0.cell 0; have s1 := kS0.cell 1; simp only [List.getElem?_cons_zero, List.getElem?_cons_succ] at s0 s1
  have t0 := kF0.cell 0; have t1 := kF0.cell 1; have t2 := kF0.cell 2; simp only [List.getElem?_cons_zero, List.getElem?_cons_succ] at t0 t1 t2
  have u0 := kL0.cell 0; have u1 := kL0.cell 1; have u2 := kL0.cell 2; simp only [List.getElem?_cons_zero, List.getElem?_cons_succ] at u0 u1 u2
  go_enter Try.func11, Try.ntmps11
  go_upto_region 1 with fail
  try simp only [World.size_alloc, hq, hq1, hq2]
  rw [HW.out]
  go_upto_region 3 with (go_at_call 15; refine (awake_c _).mono ?_; rintro e_ w1 ⟨rfl, hb1⟩)
  have hb0_1 : Below w0.heap.size w0 w1 := hb1
  have kS1 := kS0.bel hb0_1
  have kF1 := kF0.bel hb0_1
  have kL1 := kL0.bel hb0_1
  have hr1 := hr0.bel hb0_1
  have hB1 : Below q w w1 := hB0.trans (hb0_1.mono z0)
  have z1 : q ≤ w1.heap.size := by have := hb0_1.size; omega
  have ykS_1 := kS1.lt
  have ykF_1 := kF1.lt
  have ykL_1 := kL1.lt
  clear s0 s1 t0 t1 t2 u0 u1 u2 hB0 z0 hb0_1 kS0 kF0 kL0 hr0 ykS_0 ykF_0 ykL_0
  have s0 := kS1.cell 0; have s1 := kS1.cell 1; simp only [List.getElem?_cons_zero, List.getElem?_cons_succ] at s0 s1
  have t0 := kF1.cell 0; have t1 := kF1.cell 1; have t2 := kF1.cell 2; simp only [List.getElem?_cons_zero, List.getElem?_cons_succ] at t0 t1 t2
  have u0 := kL1.cell 0; have u1 := kL1.cell 1; have u2 := kL1.cell 2; simp only [List.getElem?_cons_zero, List.getElem?_cons_succ] at u0 u1 u2
  go_upto_region 5 with (go_at_call 16; refine (HFW.out _).mono ?_; rintro e_ w2 ⟨rfl, hb2⟩)
  have hb1_2 : Below w1.heap.size w1 w2 := hb2
  have kS2 := kS1.bel hb1_2
  have kF2 := kF1.bel hb1_2
  have kL2 := kL1.bel hb1_2
  have hr2 := hr1.bel hb1_2
  have hB2 : Below q w w2 := hB1.trans (hb1_2.mono z1)
  have z2 : q ≤ w2.heap.size := by have := hb1_2.size; omega
  have ykS_2 := kS2.lt
  have ykF_2 := kF2.lt
  have ykL_2 := kL2.lt
  clear s0 s1 t0 t1 t2 u0 u1 u2 hB1 z1 hb1_2 kS1 kF1 kL1 hr1 ykS_1 ykF_1 ykL_1
  have s0 := kS2.cell 0; have s1 := kS2.cell 1; simp only [List.getElem?_cons_zero, List.getElem?_cons_succ] at s0 s1
  have t0 := kF2.cell 0; have t1 := kF2.cell 1; have t2 := kF2.cell 2; simp only [List.getElem?_cons_zero, List.getElem?_cons_succ] at t0 t1 t2
  have u0 := kL2.cell 0; have u1 := kL2.cell 1; have u2 := kL2.cell 2; simp only [List.getElem?_cons_zero, List.getElem?_cons_succ] at u0 u1 u2
  have hSd : (∀ b o, b < w2.heap.size → w2.drew.cell? ⟨b, o, none⟩ = w2.cell? ⟨b, o, none⟩) ∧ Below w2.heap.size w2 w2.drew := kp (Below.refl _ _).drew
  refine wp_region_held (S := fun w' => (∀ b o, b < w2.heap.size → w'.cell? ⟨b, o, none⟩ = w2.cell? ⟨b, o, none⟩) ∧ Below w2.heap.size w2 w') (by kernel_rfl) ?_
  change wpAnyH _ _ _ _ _ _ _ _ w2.drew
  refine wpAnyH_take (i := 0) (v := ?_) rfl (by kernel_rfl) (by kernel_rfl) (by kernel_rfl) (fun _ _ _ h => h) (Or.inl ⟨by kernel_rfl, ?_⟩) (by assumption) ?_
  rotate_left 1
  · (intro w hSw; obtain ⟨hk1, hk2⟩ := hSw; go_simp <;> with_reducible rfl)
  simp only [Act.put, List.getElem_toArray, List.getElem_cons_zero, List.setIfInBounds_toArray, List.set_cons_zero, List.set_cons_succ]
  refine wpAnyH_take (i := 2) (v := ?_) rfl (by kernel_rfl) (by kernel_rfl) (by kernel_rfl) (fun _ _ _ h => h) (Or.inl ⟨by kernel_rfl, ?_⟩) (by assumption) ?_
  rotate_left 1
  · (intro w hSw; obtain ⟨hk1, hk2⟩ := hSw; go_simp <;> with_reducible rfl)
  simp only [Act.put, List.getElem_toArray, List.getElem_cons_zero, List.getElem_cons_succ, List.setIfInBounds_toArray, List.set_cons_zero, List.set_cons_succ]
  refine wpAnyH_take (i := 3) (v := ?_) rfl (by kernel_rfl) (by kernel_rfl) (by kernel_rfl) (fun _ _ _ h => h) (Or.inl ⟨by kernel_rfl, ?_⟩) (by assumption) ?_
  rotate_left 1
  · (intro w hSw; obtain ⟨hk1, hk2⟩ := hSw; go_simp <;> with_reducible rfl)
  simp only [Act.put, List.getElem_toArray, List.getElem_cons_zero, List.getElem_cons_succ, List.setIfInBounds_toArray, List.set_cons_zero, List.set_cons_succ]
  refine wpAnyH_take (i := 4) (v := ?_) rfl (by kernel_rfl) (by kernel_rfl) (by kernel_rfl) (fun _ _ _ h => h) (Or.inl ⟨by kernel_rfl, ?_⟩) (by assumption) ?_
  rotate_left 1
  · (intro w hSw; obtain ⟨hk1, hk2⟩ := hSw; go_simp <;> with_reducible rfl)
  simp only [Act.put, List.getElem_toArray, List.getElem_cons_zero, List.getElem_cons_succ, List.setIfInBounds_toArray, List.set_cons_zero, List.set_cons_succ]
  refine nextH (i := 1) (by kernel_rfl) rfl (fun K hK => ?_)
  go_simp
  refine (HCP.out _ (hr2.bel hSd.2)).mono ?_
  rintro e_ wp ⟨⟨Ap, cp, rfl, rap, rcp⟩, hbp⟩
  have hS' := kp (bel_tr hSd.2 hSd.2.size hbp)
  try dsimp only
  refine hK _ _ hS' ?_
  clear hK K hSd
  have hSd := hS'
  clear hS'
  refine nextH (i := 5) (by kernel_rfl) rfl (fun K hK => ?_)
  go_simp
  refine (HIS.out _ _ _ rap).mono ?_
  rintro e_ w3 ⟨⟨A3, c3, rfl, rx3⟩, hb3⟩
  have hS' := kp (bel_tr hSd.2 hSd.2.size hb3)
  try dsimp only
  refine hK _ _ hS' ?_
  clear hK K hSd
  have hSd := hS'
  clear hS'
  refine wpAnyH_take (i := 6) (v := ?_) rfl (by kernel_rfl) (by kernel_rfl) (by kernel_rfl) (fun _ _ _ h => h) (Or.inl ⟨by kernel_rfl, ?_⟩) (by assumption) ?_
  rotate_left 1
  · (intro w hSw; obtain ⟨hk1, hk2⟩ := hSw; go_simp <;> with_reducible rfl)
  simp only [Act.put, List.getElem_toArray, List.getElem_cons_zero, List.getElem_cons_succ, List.setIfInBounds_toArray, List.set_cons_zero, List.set_cons_succ]
  refine wpAnyH_take (i := 7) (v := ?_) rfl (by kernel_rfl) (by kernel_rfl) (by kernel_rfl) (fun _ _ _ h => h) (Or.inl ⟨by kernel_rfl, ?_⟩) (by assumption) ?_
  rotate_left 1
  · (intro w hSw; obtain ⟨hk1, hk2⟩ := hSw; go_simp <;> with_reducible rfl)
  simp only [Act.put, List.getElem_toArray, List.getElem_cons_zero, List.getElem_cons_succ, List.setIfInBounds_toArray, List.set_cons_zero, List.set_cons_succ]
  refine wpAnyH_take (i := 8) (v := ?_) rfl (by kernel_rfl) (by kernel_rfl) (by kernel_rfl) (fun _ _ _ h => h) (Or.inl ⟨by kernel_rfl, ?_⟩) (by assumption) ?_
  rotate_left 1
  · (intro w hSw; obtain ⟨hk1, hk2⟩ := hSw; go_simp <;> with_reducible rfl)
  simp only [Act.put, List.getElem_toArray, List.getElem_cons_zero, List.getElem_cons_succ, List.setIfInBounds_toArray, List.set_cons_zero, List.set_cons_succ]
  refine wpAnyH_take (i := 9) (v := ?_) rfl (by kernel_rfl) (by kernel_rfl) (by kernel_rfl) (fun _ _ _ h => h) (Or.inl ⟨by kernel_rfl, ?_⟩) (by assumption) ?_
  rotate_left 1
  · (intro w hSw; obtain ⟨hk1, hk2⟩ := hSw; go_simp <;> with_reducible rfl)
  simp only [Act.put, List.getElem_toArray, List.getElem_cons_zero, List.getElem_cons_succ, List.setIfInBounds_toArray, List.set_cons_zero, List.set_cons_succ]
  refine wpAnyH_take (i := 10) (v := ?_) rfl (by kernel_rfl) (by kernel_rfl) (by kernel_rfl) (fun _ _ _ h => h) (Or.inl ⟨by kernel_rfl, ?_⟩) (by assumption) ?_
  rotate_left 1
  · (intro w hSw; obtain ⟨hk1, hk2⟩ := hSw; go_simp <;> with_reducible rfl)
  simp only [Act.put, List.getElem_toArray, List.getElem_cons_zero, List.getElem_cons_succ, List.setIfInBounds_toArray, List.set_cons_zero, List.set_cons_succ]
  refine wpAnyH_done (by kernel_rfl) ?_ _
  have hb2_3 : Below w2.heap.size w2 w3 := hSd.2
  have kS3 := kS2.bel hb2_3
  have kF3 := kF2.bel hb2_3
  have kL3 := kL2.bel hb2_3
  have hr3 := hr2.bel hb2_3
  have hB3 : Below q w w3 := hB2.trans (hb2_3.mono z2)
  have z3 : q ≤ w3.heap.size := by have := hb2_3.size; omega
  have ykS_3 := kS3.lt
  have ykF_3 := kF3.lt
  have ykL_3 := kL3.lt
  clear s0 s1 t0 t1 t2 u0 u1 u2 hB2 z2 hb2_3 kS2 kF2 kL2 hr2 ykS_2 ykF_2 ykL_2
  have s0 := kS3.cell 0; have s1 := kS3.cell 1; simp only [List.getElem?_cons_zero, List.getElem?_cons_succ] at s0 s1
  have t0 := kF3.cell 0; have t1 := kF3.cell 1; have t2 := kF3.cell 2; simp only [List.getElem?_cons_zero, List.getElem?_cons_succ] at t0 t1 t2
  have u0 := kL3.cell 0; have u1 := kL3.cell 1; have u2 := kL3.cell 2; simp only [List.getElem?_cons_zero, List.getElem?_cons_succ] at u0 u1 u2
  clear hSd hbp hb3 rap rcp
  go_upto_region 6 with fail
  have hSd : (∀ b o, b < w3.heap.size → w3.drew.cell? ⟨b, o, none⟩ = w3.cell? ⟨b, o, none⟩) ∧ Below w3.heap.size w3 w3.drew := kp (Below.refl _ _).drew
  refine wp_region_held (S := fun w' => (∀ b o, b < w3.heap.size → w'.cell? ⟨b, o, none⟩ = w3.cell? ⟨b, o, none⟩) ∧ Below w3.heap.size w3 w') (by kernel_rfl) ?_
  change wpAnyH _ _ _ _ _ _ _ _ w3.drew
  refine wpAnyH_take (i := 0) (v := ?_) rfl (by kernel_rfl) (by kernel_rfl) (by kernel_rfl) (fun _ _ _ h => h) (Or.inl ⟨by kernel_rfl, ?_⟩) (by assumption) ?_
  rotate_left 1
  · (intro w hSw; obtain ⟨hk1, hk2⟩ := hSw; go_simp <;> with_reducible rfl)
  simp only [Act.put, List.getElem_toArray, List.getElem_cons_zero, List.setIfInBounds_toArray, List.set_cons_zero, List.set_cons_succ]
  refine wpAnyH_take (i := 2) (v := ?_) rfl (by kernel_rfl) (by kernel_rfl) (by kernel_rfl) (fun _ _ _ h => h) (Or.inl ⟨by kernel_rfl, ?_⟩) (by assumption) ?_
  rotate_left 1
  · (intro w hSw; obtain ⟨hk1, hk2⟩ := hSw; go_simp <;> with_reducible rfl)
  simp only [Act.put, List.getElem_toArray, List.getElem_cons_zero, List.getElem_cons_succ, List.setIfInBounds_toArray, List.set_cons_zero, List.set_cons_succ]
  refine wpAnyH_take (i := 3) (v := ?_) rfl (by kernel_rfl) (by kernel_rfl) (by kernel_rfl) (fun _ _ _ h => h) (Or.inl ⟨by kernel_rfl, ?_⟩) (by assumption) ?_
  rotate_left 1
  · (intro w hSw; obtain ⟨hk1, hk2⟩ := hSw; go_simp <;> with_reducible rfl)
  simp only [Act.put, List.getElem_toArray, List.getElem_cons_zero, List.getElem_cons_succ, List.setIfInBounds_toArray, List.set_cons_zero, List.set_cons_succ]
  refine nextH (i := 1) (by kernel_rfl) rfl (fun K hK => ?_)
  go_simp
  refine (HCP.out _ (hr3.bel hSd.2)).mono ?_
  rintro e_ wp ⟨⟨Ap, cp, rfl, rap, rcp⟩, hbp⟩
  have hS' := kp (bel_tr hSd.2 hSd.2.size hbp)
  try dsimp only
  refine hK _ _ hS' ?_
  clear hK K hSd
  have hSd := hS'
  clear hS'
  refine nextH (i := 4) (by kernel_rfl) rfl (fun K hK => ?_)
  go_simp
  refine (HRW.out _ _ _ rap).mono ?_
  rintro e_ w4 ⟨rfl, hb4⟩
  have hS' := kp (bel_tr hSd.2 hSd.2.size hb4)
  try dsimp only
  refine hK _ _ hS' ?_
  clear hK K hSd
  have hSd := hS'
  clear hS'
  refine wpAnyH_take (i := 5) (v := ?_) rfl (by kernel_rfl) (by kernel_rfl) (by kernel_rfl) (fun _ _ _ h => h) (Or.inl ⟨by kernel_rfl, ?_⟩) (by assumption) ?_
  rotate_left 1
  · (intro w hSw; obtain ⟨hk1, hk2⟩ := hSw; go_simp <;> with_reducible rfl)
  simp only [Act.put, List.getElem_toArray, List.getElem_cons_zero, List.getElem_cons_succ, List.setIfInBounds_toArray, List.set_cons_zero, List.set_cons_succ]
  refine wpAnyH_take (i := 6) (v := ?_) rfl (by kernel_rfl) (by kernel_rfl) (by kernel_rfl) (fun _ _ _ h => h) (Or.inl ⟨by kernel_rfl, ?_⟩) (by assumption) ?_
  rotate_left 1
  · (intro w hSw; obtain ⟨hk1, hk2⟩ := hSw; go_simp <;> with_reducible rfl)
  simp only [Act.put, List.getElem_toArray, List.getElem_cons_zero, List.getElem_cons_succ, List.setIfInBounds_toArray, List.set_cons_zero, List.set_cons_succ]
  refine wpAnyH_take (i := 7) (v := ?_) rfl (by kernel_rfl) (by kernel_rfl) (by kernel_rfl) (fun _ _ _ h => h) (Or.inl ⟨by kernel_rfl, ?_⟩) (by assumption) ?_
  rotate_left 1
  · (intro w hSw; obtain ⟨hk1, hk2⟩ := hSw; go_simp <;> with_reducible rfl)
  simp only [Act.put, List.getElem_toArray, List.getElem_cons_zero, List.getElem_cons_succ, List.setIfInBounds_toArray, List.set_cons_zero, List.set_cons_succ]
  refine wpAnyH_take (i := 8) (v := ?_) rfl (by kernel_rfl) (by kernel_rfl) (by kernel_rfl) (fun _ _ _ h => h) (Or.inl ⟨by kernel_rfl, ?_⟩) (by assumption) ?_
  rotate_left 1
  · (intro w hSw; obtain ⟨hk1, hk2⟩ := hSw; go_simp <;> with_reducible rfl)
  simp only [Act.put, List.getElem_toArray, List.getElem_cons_zero, List.getElem_cons_succ, List.setIfInBounds_toArray, List.set_cons_zero, List.set_cons_succ]
  refine wpAnyH_take (i := 9) (v := ?_) rfl (by kernel_rfl) (by kernel_rfl) (by kernel_rfl) (fun _ _ _ h => h) (Or.inl ⟨by kernel_rfl, ?_⟩) (by assumption) ?_
  rotate_left 1
  · (intro w hSw; obtain ⟨hk1, hk2⟩ := hSw; go_simp <;> with_reducible rfl)
  simp only [Act.put, List.getElem_toArray, List.getElem_cons_zero, List.getElem_cons_succ, List.setIfInBounds_toArray, List.set_cons_zero, List.set_cons_succ]
  refine wpAnyH_done (by kernel_rfl) ?_ _
  have hb3_4 : Below w3.heap.size w3 w4 := hSd.2
  have kS4 := kS3.bel hb3_4
  have kF4 := kF3.bel hb3_4
  have kL4 := kL3.bel hb3_4
  have hr4 := hr3.bel hb3_4
  have rx4 := rx3.bel hb3_4
  have hB4 : Below q w w4 := hB3.trans (hb3_4.mono z3)
  have z4 : q ≤ w4.heap.size := by have := hb3_4.size; omega
  have ykS_4 := kS4.lt
  have ykF_4 := kF4.lt
  have ykL_4 := kL4.lt
  clear s0 s1 t0 t1 t2 u0 u1 u2 hB3 z3 hb3_4 kS3 kF3 kL3 hr3 rx3 ykS_3 ykF_3 ykL_3
  have s0 := kS4.cell 0; have s1 := kS4.cell 1; simp only [List.getElem?_cons_zero, List.getElem?_cons_succ] at s0 s1
  have t0 := kF4.cell 0; have t1 := kF4.cell 1; have t2 := kF4.cell 2; simp only [List.getElem?_cons_zero, List.getElem?_cons_succ] at t0 t1 t2
  have u0 := kL4.cell 0; have u1 := kL4.cell 1; have u2 := kL4.cell 2; simp only [List.getElem?_cons_zero, List.getElem?_cons_succ] at u0 u1 u2
  clear hSd hbp hb4 rap rcp
  go_upto_region 8 with (go_at_call 71; refine (HXE.out _).mono ?_; rintro e_ w5 ⟨rfl, hb5⟩)
  have hb4_5 : Below w4.heap.size w4 w5 := hb5
  have kS5 := kS4.bel hb4_5
  have kF5 := kF4.bel hb4_5
  have kL5 := kL4.bel hb4_5
  have hr5 := hr4.bel hb4_5
  have rx5 := rx4.bel hb4_5
  have hB5 : Below q w w5 := hB4.trans (hb4_5.mono z4)
  have z5 : q ≤ w5.heap.size := by have := hb4_5.size; omega
  have ykS_5 := kS5.lt
  have ykF_5 := kF5.lt
  have ykL_5 := kL5.lt
  clear s0 s1 t0 t1 t2 u0 u1 u2 hB4 z4 hb4_5 kS4 kF4 kL4 hr4 rx4 ykS_4 ykF_4 ykL_4
  have s0 := kS5.cell 0; have s1 := kS5.cell 1; simp only [List.getElem?_cons_zero, List.getElem?_cons_succ] at s0 s1
  have t0 := kF5.cell 0; have t1 := kF5.cell 1; have t2 := kF5.cell 2; simp only [List.getElem?_cons_zero, List.getElem?_cons_succ] at t0 t1 t2
  have u0 := kL5.cell 0; have u1 := kL5.cell 1; have u2 := kL5.cell 2; simp only [List.getElem?_cons_zero, List.getElem?_cons_succ] at u0 u1 u2
  clear hb5
  go_upto_region 10 with (go_at_call 72; refine (HXC.out _).mono ?_; rintro e_ w6 ⟨rfl, hb6⟩)
  have hb5_6 : Below w5.heap.size w5 w6 := hb6
  have kS6 := kS5.bel hb5_6
  have kF6 := kF5.bel hb5_6
  have kL6 := kL5.bel hb5_6
  have hr6 := hr5.bel hb5_6
  have rx6 := rx5.bel hb5_6
  have hB6 : Below q w w6 := hB5.trans (hb5_6.mono z5)
  have z6 : q ≤ w6.heap.size := by have := hb5_6.size; omega
  have ykS_6 := kS6.lt
  have ykF_6 := kF6.lt
  have ykL_6 := kL6.lt
  clear s0 s1 t0 t1 t2 u0 u1 u2 hB5 z5 hb5_6 kS5 kF5 kL5 hr5 rx5 ykS_5 ykF_5 ykL_5
  have s0 := kS6.cell 0; have s1 := kS6.cell 1; simp only [List.getElem?_cons_zero, List.getElem?_cons_succ] at s0 s1
  have t0 := kF6.cell 0; have t1 := kF6.cell 1; have t2 := kF6.cell 2; simp only [List.getElem?_cons_zero, List.getElem?_cons_succ] at t0 t1 t2
  have u0 := kL6.cell 0; have u1 := kL6.cell 1; have u2 := kL6.cell 2; simp only [List.getElem?_cons_zero, List.getElem?_cons_succ] at u0 u1 u2
  clear hb6
  go_upto_region 11 with (go_at_call 53; refine (HSE.out _ hr6).mono ?_; rintro e_ w7 ⟨rfl, hb7⟩)
  have hb6_7 : Below w6.heap.size w6 w7 := hb7
  have kS7 := kS6.bel hb6_7
  have kF7 := kF6.bel hb6_7
  have kL7 := kL6.bel hb6_7
  have hr7 := hr6.bel hb6_7
  have rx7 := rx6.bel hb6_7
  have hB7 : Below q w w7 := hB6.trans (hb6_7.mono z6)
  have z7 : q ≤ w7.heap.size := by have := hb6_7.size; omega
  have ykS_7 := kS7.lt
  have ykF_7 := kF7.lt
  have ykL_7 := kL7.lt
  clear s0 s1 t0 t1 t2 u0 u1 u2 hB6 z6 hb6_7 kS6 kF6 kL6 hr6 rx6 ykS_6 ykF_6 ykL_6
  have s0 := kS7.cell 0; have s1 := kS7.cell 1; simp only [List.getElem?_cons_zero, List.getElem?_cons_succ] at s0 s1
  have t0 := kF7.cell 0; have t1 := kF7.cell 1; have t2 := kF7.cell 2; simp only [List.getElem?_cons_zero, List.getElem?_cons_succ] at t0 t1 t2
  have u0 := kL7.cell 0; have u1 := kL7.cell 1; have u2 := kL7.cell 2; simp only [List.getElem?_cons_zero, List.getElem?_cons_succ] at u0 u1 u2
  clear hb7
  go_upto_region 13 with (go_at_call 24; refine (HFE.out _).mono ?_; rintro e_ w_ ⟨rfl, rfl⟩)
  go_upto_region 17 with fail
  go_upto_region 19 with fail
  go_upto_region 20 with (go_at_call 53; refine (HSE.out _ hr7).mono ?_; rintro e_ w11 ⟨rfl, hb11⟩)
  have hb7_11 : Below w7.heap.size w7 w11 := hb11
  have kS11 := kS7.bel hb7_11
  have kF11 := kF7.bel hb7_11
  have kL11 := kL7.bel hb7_11
  have hr11 := hr7.bel hb7_11
  have rx11 := rx7.bel hb7_11
  have hB11 : Below q w w11 := hB7.trans (hb7_11.mono z7)
  have z11 : q ≤ w11.heap.size := by have := hb7_11.size; omega
  have ykS_11 := kS11.lt
  have ykF_11 := kF11.lt
  have ykL_11 := kL11.lt
  clear s0 s1 t0 t1 t2 u0 u1 u2 hB7 z7 hb7_11 kS7 kF7 kL7 hr7 rx7 ykS_7 ykF_7 ykL_7
  have s0 := kS11.cell 0; have s1 := kS11.cell 1; simp only [List.getElem?_cons_zero, List.getElem?_cons_succ] at s0 s1
  have t0 := kF11.cell 0; have t1 := kF11.cell 1; have t2 := kF11.cell 2; simp only [List.getElem?_cons_zero, List.getElem?_cons_succ] at t0 t1 t2
  have u0 := kL11.cell 0; have u1 := kL11.cell 1; have u2 := kL11.cell 2; simp only [List.getElem?_cons_zero, List.getElem?_cons_succ] at u0 u1 u2
  clear hb11
  go_wp2
  go_ret
  exact ⟨rfl, by first | exact hB11 | (rw [hq]; exact hB11)⟩
set_option maxHeartbeats 16000000 in
theorem fieldsLaw_00011 (H gy lo hi f n d : Int) (A : Option Addr) (c : Nat) (l : List G) (w : World) (hr : Rd w A (gs l)) (hl : l.length ≤ 14) (g1 : -9223372036854775808 ≤ n ∧ n ≤ 9223372036854775807) (g2 : d ≤ 9223372036854775807) (hs : (skyE H l).2 = 0) (hfr : freqE f = 0) (hfd : fieldE gy lo hi = 0) (hla : launchE n d ≠ 0) (hsl : gyroE f gy ≠ 0) :
    Calls Try.prog 11 #[.agg #[.int .i64 H, .slice A l.length c], .agg #[.int .i64 gy, .int .i64 lo, .int .i64 hi], .agg #[.int .i64 f, .int .i64 n, .int .i64 d]] w fun r w' => r = .returned (.bool true) ∧ Below w.heap.size w w' := by
  have HCP := hide (fun W (h : Rd W A (gs l)) => copySky_c H A c l W h (by omega))
  have HFW := hide (fun W => few_c H A c l W)
  rw [decide_eq_true (show (l.length : Int) ≤ 14 by omega)] at HFW
  have HSE := hide (fun W (h : Rd W A (gs l)) => refSkyErr_c H A c l W h (by omega))
  have HFE := hide (fun W => frequencyErr_c f W)
  have HXE := hide (fun W => refFieldErr_c gy lo hi W)
  have HXC := hide (fun W => checkField_c gy lo hi W)
  have HSH := hide (fun W => refShotErr_c f n d W g1.1 g1.2 g2)
  have HSL := hide (fun W => refSlowErr_c f gy lo hi W)
  have HIS := hide (fun A' c' W (h : Rd W A' (gs l)) => indexSpans_c H f gy lo hi A' c' l W h (by omega))
  have HRW := hide (fun A' c' W (h : Rd W A' (gs l)) => reflectsWith_c H gy lo hi f n d A' c' l W h (by omega) g1.1 g1.2 g2)
  have hshot : shotE f n d = launchE n d := by unfold shotE; rw [hfr]; exact firstE_01b _
  have hx1 : spaE H f gy lo hi l = gyroE f gy := by unfold spaE; simp [firstE, hs, hfr, hfd, hla, hsl, hshot]
  have hx1n : spaE H f gy lo hi l ≠ 0 := by rw [hx1]; exact hsl
  rw [show spaN H f gy lo hi l = 0 by unfold spaN; rw [if_neg hx1n], show spaL H f gy lo hi l = [] by unfold spaL; rw [if_neg hx1n], hx1] at HIS
  clear hx1n hx1
  have hx2 : refE H gy lo hi f n d l = launchE n d := by unfold refE; simp [firstE, hs, hfr, hfd, hla, hsl, hshot]
  rw [show refQ H gy lo hi f n d l = (0, launchE n d) by unfold refQ; rw [if_pos (by rw [hx2]; exact hla), hx2]] at HRW
  clear hx2
  dsimp only at HRW
  rw [hshot] at HSH
  clear hshot
  try rw [hs] at HSE
  try rw [hs] at HFE
  try rw [hs] at HXE
  try rw [hs] at HXC
  try rw [hs] at HSH
  try rw [hs] at HSL
  try rw [hs] at HIS
  try rw [hs] at HRW
  clear hs
  try rw [hfr] at HSE
  try rw [hfr] at HFE
  try rw [hfr] at HXE
  try rw [hfr] at HXC
  try rw [hfr] at HSH
  try rw [hfr] at HSL
  try rw [hfr] at HIS
  try rw [hfr] at HRW
  clear hfr
  try rw [hfd] at HSE
  try rw [hfd] at HFE
  try rw [hfd] at HXE
  try rw [hfd] at HXC
  try rw [hfd] at HSH
  try rw [hfd] at HSL
  try rw [hfd] at HIS
  try rw [hfd] at HRW
  clear hfd
  generalize launchE n d = el at *
  have el1 : (el != 0) = true := by simpa using hla
  have el2 : (el == 0) = false := by simpa using hla
  have el9 : ¬ el = 0 := hla
  clear hla
  generalize gyroE f gy = ey at *
  have ey1 : (ey != 0) = true := by simpa using hsl
  have ey2 : (ey == 0) = false := by simpa using hsl
  have ey9 : ¬ ey = 0 := hsl
  clear hsl
  obtain ⟨q, hq⟩ : ∃ q, w.heap.size = q := ⟨_, rfl⟩
  obtain ⟨q1, hq1⟩ : ∃ q1, q + 1 = q1 := ⟨_, rfl⟩
  obtain ⟨q2, hq2⟩ : ∃ q2, q1 + 1 = q2 := ⟨_, rfl⟩
  obtain ⟨Wa, hWa⟩ : ∃ Wa, w.alloc (.cells #[.int .i64 H, .slice A l.length c] 24) = Wa := ⟨_, rfl⟩
  have ba : Below w.heap.size w Wa := by rw [← hWa]; exact alloc_bel _ _
  have sa : Wa.heap.size = q1 := by rw [← hWa, ← hq1, ← hq]; simp
  have ka : Blk Wa q 24 [.int .i64 H, .slice A l.length c] := by rw [← hWa, ← hq]; exact Blk.new w _ [_, _]
  obtain ⟨Wb, hWb⟩ : ∃ Wb, Wa.alloc (.cells #[.int .i64 gy, .int .i64 lo, .int .i64 hi] 121) = Wb := ⟨_, rfl⟩
  have bb : Below Wa.heap.size Wa Wb := by rw [← hWb]; exact alloc_bel _ _
  have sb : Wb.heap.size = q2 := by rw [← hWb, ← hq2, ← sa]; simp
  have kb : Blk Wb q1 121 [.int .i64 gy, .int .i64 lo, .int .i64 hi] := by rw [← hWb, ← sa]; exact Blk.new Wa _ [_, _, _]
  obtain ⟨w0, hWc⟩ : ∃ w0, Wb.alloc (.cells #[.int .i64 f, .int .i64 n, .int .i64 d] 123) = w0 := ⟨_, rfl⟩
  have bc : Below Wb.heap.size Wb w0 := by rw [← hWc]; exact alloc_bel _ _
  have kL0 : Blk w0 q2 123 [.int .i64 f, .int .i64 n, .int .i64 d] := by rw [← hWc, ← sb]; exact Blk.new Wb _ [_, _, _]
  have hABC : ((w.alloc (.cells #[.int .i64 H, .slice A l.length c] 24)).alloc (.cells #[.int .i64 gy, .int .i64 lo, .int .i64 hi] 121)).alloc (.cells #[.int .i64 f, .int .i64 n, .int .i64 d] 123) = w0 := by rw [hWa, hWb, hWc]
  have HW := hide hABC
  have kS0 := (ka.bel bb).bel bc
  have kF0 := kb.bel bc
  have hr0 := ((hr.bel ba).bel bb).bel bc
  have hB0 : Below q w w0 := by
    rw [hq] at ba
    exact (ba.trans (bb.mono (by omega))).trans (bc.mono (by omega))
  have z0 : q ≤ w0.heap.size := by have := kS0.lt; omega
  clear hABC hWa hWb hWc ba bb bc ka kb sa sb
  have ykS_0 := kS0.lt
  have ykF_0 := kF0.lt
  have ykL_0 := kL0.lt
  have s0 := kS0.cell 0; have s1 := kS0.cell 1; simp only [List.getElem?_cons_zero, List.getElem?_cons_succ] at s0 s1
  have t0 := kF0.cell 0; have t1 := kF0.cell 1; have t2 := kF0.cell 2; simp only [List.getElem?_cons_zero, List.getElem?_cons_succ] at t0 t1 t2
  have u0 := kL0.cell 0; have u1 := kL0.cell 1; have u2 := kL0.cell 2; simp only [List.getElem?_cons_zero, List.getElem?_cons_succ] at u0 u1 u2
  go_enter Try.func11, Try.ntmps11
  go_upto_region 1 with fail
  try simp only [World.size_alloc, hq, hq1, hq2]
  rw [HW.out]
  go_upto_region 3 with (go_at_call 15; refine (awake_c _).mono ?_; rintro e_ w1 ⟨rfl, hb1⟩)
  have hb0_1 : Below w0.heap.size w0 w1 := hb1
  have kS1 := kS0.bel hb0_1
  have kF1 := kF0.bel hb0_1
  have kL1 := kL0.bel hb0_1
  have hr1 := hr0.bel hb0_1
  have hB1 : Below q w w1 := hB0.trans (hb0_1.mono z0)
  have z1 : q ≤ w1.heap.size := by have := hb0_1.size; omega
  have ykS_1 := kS1.lt
  have ykF_1 := kF1.lt
  have ykL_1 := kL1.lt
  clear s0 s1 t0 t1 t2 u0 u1 u2 hB0 z0 hb0_1 kS0 kF0 kL0 hr0 ykS_0 ykF_0 ykL_0
  have s0 := kS1.cell 0; have s1 := kS1.cell 1; simp only [List.getElem?_cons_zero, List.getElem?_cons_succ] at s0 s1
  have t0 := kF1.cell 0; have t1 := kF1.cell 1; have t2 := kF1.cell 2; simp only [List.getElem?_cons_zero, List.getElem?_cons_succ] at t0 t1 t2
  have u0 := kL1.cell 0; have u1 := kL1.cell 1; have u2 := kL1.cell 2; simp only [List.getElem?_cons_zero, List.getElem?_cons_succ] at u0 u1 u2
  go_upto_region 5 with (go_at_call 16; refine (HFW.out _).mono ?_; rintro e_ w2 ⟨rfl, hb2⟩)
  have hb1_2 : Below w1.heap.size w1 w2 := hb2
  have kS2 := kS1.bel hb1_2
  have kF2 := kF1.bel hb1_2
  have kL2 := kL1.bel hb1_2
  have hr2 := hr1.bel hb1_2
  have hB2 : Below q w w2 := hB1.trans (hb1_2.mono z1)
  have z2 : q ≤ w2.heap.size := by have := hb1_2.size; omega
  have ykS_2 := kS2.lt
  have ykF_2 := kF2.lt
  have ykL_2 := kL2.lt
  clear s0 s1 t0 t1 t2 u0 u1 u2 hB1 z1 hb1_2 kS1 kF1 kL1 hr1 ykS_1 ykF_1 ykL_1
  have s0 := kS2.cell 0; have s1 := kS2.cell 1; simp only [List.getElem?_cons_zero, List.getElem?_cons_succ] at s0 s1
  have t0 := kF2.cell 0; have t1 := kF2.cell 1; have t2 := kF2.cell 2; simp only [List.getElem?_cons_zero, List.getElem?_cons_succ] at t0 t1 t2
  have u0 := kL2.cell 0; have u1 := kL2.cell 1; have u2 := kL2.cell 2; simp only [List.getElem?_cons_zero, List.getElem?_cons_succ] at u0 u1 u2
  have hSd : (∀ b o, b < w2.heap.size → w2.drew.cell? ⟨b, o, none⟩ = w2.cell? ⟨b, o, none⟩) ∧ Below w2.heap.size w2 w2.drew := kp (Below.refl _ _).drew
  refine wp_region_held (S := fun w' => (∀ b o, b < w2.heap.size → w'.cell? ⟨b, o, none⟩ = w2.cell? ⟨b, o, none⟩) ∧ Below w2.heap.size w2 w') (by kernel_rfl) ?_
  change wpAnyH _ _ _ _ _ _ _ _ w2.drew
  refine wpAnyH_take (i := 0) (v := ?_) rfl (by kernel_rfl) (by kernel_rfl) (by kernel_rfl) (fun _ _ _ h => h) (Or.inl ⟨by kernel_rfl, ?_⟩) (by assumption) ?_
  rotate_left 1
  · (intro w hSw; obtain ⟨hk1, hk2⟩ := hSw; go_simp <;> with_reducible rfl)
  simp only [Act.put, List.getElem_toArray, List.getElem_cons_zero, List.setIfInBounds_toArray, List.set_cons_zero, List.set_cons_succ]
  refine wpAnyH_take (i := 2) (v := ?_) rfl (by kernel_rfl) (by kernel_rfl) (by kernel_rfl) (fun _ _ _ h => h) (Or.inl ⟨by kernel_rfl, ?_⟩) (by assumption) ?_
  rotate_left 1
  · (intro w hSw; obtain ⟨hk1, hk2⟩ := hSw; go_simp <;> with_reducible rfl)
  simp only [Act.put, List.getElem_toArray, List.getElem_cons_zero, List.getElem_cons_succ, List.setIfInBounds_toArray, List.set_cons_zero, List.set_cons_succ]
  refine wpAnyH_take (i := 3) (v := ?_) rfl (by kernel_rfl) (by kernel_rfl) (by kernel_rfl) (fun _ _ _ h => h) (Or.inl ⟨by kernel_rfl, ?_⟩) (by assumption) ?_
  rotate_left 1
  · (intro w hSw; obtain ⟨hk1, hk2⟩ := hSw; go_simp <;> with_reducible rfl)
  simp only [Act.put, List.getElem_toArray, List.getElem_cons_zero, List.getElem_cons_succ, List.setIfInBounds_toArray, List.set_cons_zero, List.set_cons_succ]
  refine wpAnyH_take (i := 4) (v := ?_) rfl (by kernel_rfl) (by kernel_rfl) (by kernel_rfl) (fun _ _ _ h => h) (Or.inl ⟨by kernel_rfl, ?_⟩) (by assumption) ?_
  rotate_left 1
  · (intro w hSw; obtain ⟨hk1, hk2⟩ := hSw; go_simp <;> with_reducible rfl)
  simp only [Act.put, List.getElem_toArray, List.getElem_cons_zero, List.getElem_cons_succ, List.setIfInBounds_toArray, List.set_cons_zero, List.set_cons_succ]
  refine nextH (i := 1) (by kernel_rfl) rfl (fun K hK => ?_)
  go_simp
  refine (HCP.out _ (hr2.bel hSd.2)).mono ?_
  rintro e_ wp ⟨⟨Ap, cp, rfl, rap, rcp⟩, hbp⟩
  have hS' := kp (bel_tr hSd.2 hSd.2.size hbp)
  try dsimp only
  refine hK _ _ hS' ?_
  clear hK K hSd
  have hSd := hS'
  clear hS'
  refine nextH (i := 5) (by kernel_rfl) rfl (fun K hK => ?_)
  go_simp
  refine (HIS.out _ _ _ rap).mono ?_
  rintro e_ w3 ⟨⟨A3, c3, rfl, rx3⟩, hb3⟩
  have hS' := kp (bel_tr hSd.2 hSd.2.size hb3)
  try dsimp only
  refine hK _ _ hS' ?_
  clear hK K hSd
  have hSd := hS'
  clear hS'
  refine wpAnyH_take (i := 6) (v := ?_) rfl (by kernel_rfl) (by kernel_rfl) (by kernel_rfl) (fun _ _ _ h => h) (Or.inl ⟨by kernel_rfl, ?_⟩) (by assumption) ?_
  rotate_left 1
  · (intro w hSw; obtain ⟨hk1, hk2⟩ := hSw; go_simp <;> with_reducible rfl)
  simp only [Act.put, List.getElem_toArray, List.getElem_cons_zero, List.getElem_cons_succ, List.setIfInBounds_toArray, List.set_cons_zero, List.set_cons_succ]
  refine wpAnyH_take (i := 7) (v := ?_) rfl (by kernel_rfl) (by kernel_rfl) (by kernel_rfl) (fun _ _ _ h => h) (Or.inl ⟨by kernel_rfl, ?_⟩) (by assumption) ?_
  rotate_left 1
  · (intro w hSw; obtain ⟨hk1, hk2⟩ := hSw; go_simp <;> with_reducible rfl)
  simp only [Act.put, List.getElem_toArray, List.getElem_cons_zero, List.getElem_cons_succ, List.setIfInBounds_toArray, List.set_cons_zero, List.set_cons_succ]
  refine wpAnyH_take (i := 8) (v := ?_) rfl (by kernel_rfl) (by kernel_rfl) (by kernel_rfl) (fun _ _ _ h => h) (Or.inl ⟨by kernel_rfl, ?_⟩) (by assumption) ?_
  rotate_left 1
  · (intro w hSw; obtain ⟨hk1, hk2⟩ := hSw; go_simp <;> with_reducible rfl)
  simp only [Act.put, List.getElem_toArray, List.getElem_cons_zero, List.getElem_cons_succ, List.setIfInBounds_toArray, List.set_cons_zero, List.set_cons_succ]
  refine wpAnyH_take (i := 9) (v := ?_) rfl (by kernel_rfl) (by kernel_rfl) (by kernel_rfl) (fun _ _ _ h => h) (Or.inl ⟨by kernel_rfl, ?_⟩) (by assumption) ?_
  rotate_left 1
  · (intro w hSw; obtain ⟨hk1, hk2⟩ := hSw; go_simp <;> with_reducible rfl)
  simp only [Act.put, List.getElem_toArray, List.getElem_cons_zero, List.getElem_cons_succ, List.setIfInBounds_toArray, List.set_cons_zero, List.set_cons_succ]
  refine wpAnyH_take (i := 10) (v := ?_) rfl (by kernel_rfl) (by kernel_rfl) (by kernel_rfl) (fun _ _ _ h => h) (Or.inl ⟨by kernel_rfl, ?_⟩) (by assumption) ?_
  rotate_left 1
  · (intro w hSw; obtain ⟨hk1, hk2⟩ := hSw; go_simp <;> with_reducible rfl)
  simp only [Act.put, List.getElem_toArray, List.getElem_cons_zero, List.getElem_cons_succ, List.setIfInBounds_toArray, List.set_cons_zero, List.set_cons_succ]
  refine wpAnyH_done (by kernel_rfl) ?_ _
  have hb2_3 : Below w2.heap.size w2 w3 := hSd.2
  have kS3 := kS2.bel hb2_3
  have kF3 := kF2.bel hb2_3
  have kL3 := kL2.bel hb2_3
  have hr3 := hr2.bel hb2_3
  have hB3 : Below q w w3 := hB2.trans (hb2_3.mono z2)
  have z3 : q ≤ w3.heap.size := by have := hb2_3.size; omega
  have ykS_3 := kS3.lt
  have ykF_3 := kF3.lt
  have ykL_3 := kL3.lt
  clear s0 s1 t0 t1 t2 u0 u1 u2 hB2 z2 hb2_3 kS2 kF2 kL2 hr2 ykS_2 ykF_2 ykL_2
  have s0 := kS3.cell 0; have s1 := kS3.cell 1; simp only [List.getElem?_cons_zero, List.getElem?_cons_succ] at s0 s1
  have t0 := kF3.cell 0; have t1 := kF3.cell 1; have t2 := kF3.cell 2; simp only [List.getElem?_cons_zero, List.getElem?_cons_succ] at t0 t1 t2
  have u0 := kL3.cell 0; have u1 := kL3.cell 1; have u2 := kL3.cell 2; simp only [List.getElem?_cons_zero, List.getElem?_cons_succ] at u0 u1 u2
  clear hSd hbp hb3 rap rcp
  go_upto_region 6 with fail
  have hSd : (∀ b o, b < w3.heap.size → w3.drew.cell? ⟨b, o, none⟩ = w3.cell? ⟨b, o, none⟩) ∧ Below w3.heap.size w3 w3.drew := kp (Below.refl _ _).drew
  refine wp_region_held (S := fun w' => (∀ b o, b < w3.heap.size → w'.cell? ⟨b, o, none⟩ = w3.cell? ⟨b, o, none⟩) ∧ Below w3.heap.size w3 w') (by kernel_rfl) ?_
  change wpAnyH _ _ _ _ _ _ _ _ w3.drew
  refine wpAnyH_take (i := 0) (v := ?_) rfl (by kernel_rfl) (by kernel_rfl) (by kernel_rfl) (fun _ _ _ h => h) (Or.inl ⟨by kernel_rfl, ?_⟩) (by assumption) ?_
  rotate_left 1
  · (intro w hSw; obtain ⟨hk1, hk2⟩ := hSw; go_simp <;> with_reducible rfl)
  simp only [Act.put, List.getElem_toArray, List.getElem_cons_zero, List.setIfInBounds_toArray, List.set_cons_zero, List.set_cons_succ]
  refine wpAnyH_take (i := 2) (v := ?_) rfl (by kernel_rfl) (by kernel_rfl) (by kernel_rfl) (fun _ _ _ h => h) (Or.inl ⟨by kernel_rfl, ?_⟩) (by assumption) ?_
  rotate_left 1
  · (intro w hSw; obtain ⟨hk1, hk2⟩ := hSw; go_simp <;> with_reducible rfl)
  simp only [Act.put, List.getElem_toArray, List.getElem_cons_zero, List.getElem_cons_succ, List.setIfInBounds_toArray, List.set_cons_zero, List.set_cons_succ]
  refine wpAnyH_take (i := 3) (v := ?_) rfl (by kernel_rfl) (by kernel_rfl) (by kernel_rfl) (fun _ _ _ h => h) (Or.inl ⟨by kernel_rfl, ?_⟩) (by assumption) ?_
  rotate_left 1
  · (intro w hSw; obtain ⟨hk1, hk2⟩ := hSw; go_simp <;> with_reducible rfl)
  simp only [Act.put, List.getElem_toArray, List.getElem_cons_zero, List.getElem_cons_succ, List.setIfInBounds_toArray, List.set_cons_zero, List.set_cons_succ]
  refine nextH (i := 1) (by kernel_rfl) rfl (fun K hK => ?_)
  go_simp
  refine (HCP.out _ (hr3.bel hSd.2)).mono ?_
  rintro e_ wp ⟨⟨Ap, cp, rfl, rap, rcp⟩, hbp⟩
  have hS' := kp (bel_tr hSd.2 hSd.2.size hbp)
  try dsimp only
  refine hK _ _ hS' ?_
  clear hK K hSd
  have hSd := hS'
  clear hS'
  refine nextH (i := 4) (by kernel_rfl) rfl (fun K hK => ?_)
  go_simp
  refine (HRW.out _ _ _ rap).mono ?_
  rintro e_ w4 ⟨rfl, hb4⟩
  have hS' := kp (bel_tr hSd.2 hSd.2.size hb4)
  try dsimp only
  refine hK _ _ hS' ?_
  clear hK K hSd
  have hSd := hS'
  clear hS'
  refine wpAnyH_take (i := 5) (v := ?_) rfl (by kernel_rfl) (by kernel_rfl) (by kernel_rfl) (fun _ _ _ h => h) (Or.inl ⟨by kernel_rfl, ?_⟩) (by assumption) ?_
  rotate_left 1
  · (intro w hSw; obtain ⟨hk1, hk2⟩ := hSw; go_simp <;> with_reducible rfl)
  simp only [Act.put, List.getElem_toArray, List.getElem_cons_zero, List.getElem_cons_succ, List.setIfInBounds_toArray, List.set_cons_zero, List.set_cons_succ]
  refine wpAnyH_take (i := 6) (v := ?_) rfl (by kernel_rfl) (by kernel_rfl) (by kernel_rfl) (fun _ _ _ h => h) (Or.inl ⟨by kernel_rfl, ?_⟩) (by assumption) ?_
  rotate_left 1
  · (intro w hSw; obtain ⟨hk1, hk2⟩ := hSw; go_simp <;> with_reducible rfl)
  simp only [Act.put, List.getElem_toArray, List.getElem_cons_zero, List.getElem_cons_succ, List.setIfInBounds_toArray, List.set_cons_zero, List.set_cons_succ]
  refine wpAnyH_take (i := 7) (v := ?_) rfl (by kernel_rfl) (by kernel_rfl) (by kernel_rfl) (fun _ _ _ h => h) (Or.inl ⟨by kernel_rfl, ?_⟩) (by assumption) ?_
  rotate_left 1
  · (intro w hSw; obtain ⟨hk1, hk2⟩ := hSw; go_simp <;> with_reducible rfl)
  simp only [Act.put, List.getElem_toArray, List.getElem_cons_zero, List.getElem_cons_succ, List.setIfInBounds_toArray, List.set_cons_zero, List.set_cons_succ]
  refine wpAnyH_take (i := 8) (v := ?_) rfl (by kernel_rfl) (by kernel_rfl) (by kernel_rfl) (fun _ _ _ h => h) (Or.inl ⟨by kernel_rfl, ?_⟩) (by assumption) ?_
  rotate_left 1
  · (intro w hSw; obtain ⟨hk1, hk2⟩ := hSw; go_simp <;> with_reducible rfl)
  simp only [Act.put, List.getElem_toArray, List.getElem_cons_zero, List.getElem_cons_succ, List.setIfInBounds_toArray, List.set_cons_zero, List.set_cons_succ]
  refine wpAnyH_take (i := 9) (v := ?_) rfl (by kernel_rfl) (by kernel_rfl) (by kernel_rfl) (fun _ _ _ h => h) (Or.inl ⟨by kernel_rfl, ?_⟩) (by assumption) ?_
  rotate_left 1
  · (intro w hSw; obtain ⟨hk1, hk2⟩ := hSw; go_simp <;> with_reducible rfl)
  simp only [Act.put, List.getElem_toArray, List.getElem_cons_zero, List.getElem_cons_succ, List.setIfInBounds_toArray, List.set_cons_zero, List.set_cons_succ]
  refine wpAnyH_done (by kernel_rfl) ?_ _
  have hb3_4 : Below w3.heap.size w3 w4 := hSd.2
  have kS4 := kS3.bel hb3_4
  have kF4 := kF3.bel hb3_4
  have kL4 := kL3.bel hb3_4
  have hr4 := hr3.bel hb3_4
  have rx4 := rx3.bel hb3_4
  have hB4 : Below q w w4 := hB3.trans (hb3_4.mono z3)
  have z4 : q ≤ w4.heap.size := by have := hb3_4.size; omega
  have ykS_4 := kS4.lt
  have ykF_4 := kF4.lt
  have ykL_4 := kL4.lt
  clear s0 s1 t0 t1 t2 u0 u1 u2 hB3 z3 hb3_4 kS3 kF3 kL3 hr3 rx3 ykS_3 ykF_3 ykL_3
  have s0 := kS4.cell 0; have s1 := kS4.cell 1; simp only [List.getElem?_cons_zero, List.getElem?_cons_succ] at s0 s1
  have t0 := kF4.cell 0; have t1 := kF4.cell 1; have t2 := kF4.cell 2; simp only [List.getElem?_cons_zero, List.getElem?_cons_succ] at t0 t1 t2
  have u0 := kL4.cell 0; have u1 := kL4.cell 1; have u2 := kL4.cell 2; simp only [List.getElem?_cons_zero, List.getElem?_cons_succ] at u0 u1 u2
  clear hSd hbp hb4 rap rcp
  go_upto_region 8 with (go_at_call 71; refine (HXE.out _).mono ?_; rintro e_ w5 ⟨rfl, hb5⟩)
  have hb4_5 : Below w4.heap.size w4 w5 := hb5
  have kS5 := kS4.bel hb4_5
  have kF5 := kF4.bel hb4_5
  have kL5 := kL4.bel hb4_5
  have hr5 := hr4.bel hb4_5
  have rx5 := rx4.bel hb4_5
  have hB5 : Below q w w5 := hB4.trans (hb4_5.mono z4)
  have z5 : q ≤ w5.heap.size := by have := hb4_5.size; omega
  have ykS_5 := kS5.lt
  have ykF_5 := kF5.lt
  have ykL_5 := kL5.lt
  clear s0 s1 t0 t1 t2 u0 u1 u2 hB4 z4 hb4_5 kS4 kF4 kL4 hr4 rx4 ykS_4 ykF_4 ykL_4
  have s0 := kS5.cell 0; have s1 := kS5.cell 1; simp only [List.getElem?_cons_zero, List.getElem?_cons_succ] at s0 s1
  have t0 := kF5.cell 0; have t1 := kF5.cell 1; have t2 := kF5.cell 2; simp only [List.getElem?_cons_zero, List.getElem?_cons_succ] at t0 t1 t2
  have u0 := kL5.cell 0; have u1 := kL5.cell 1; have u2 := kL5.cell 2; simp only [List.getElem?_cons_zero, List.getElem?_cons_succ] at u0 u1 u2
  clear hb5
  go_upto_region 10 with (go_at_call 72; refine (HXC.out _).mono ?_; rintro e_ w6 ⟨rfl, hb6⟩)
  have hb5_6 : Below w5.heap.size w5 w6 := hb6
  have kS6 := kS5.bel hb5_6
  have kF6 := kF5.bel hb5_6
  have kL6 := kL5.bel hb5_6
  have hr6 := hr5.bel hb5_6
  have rx6 := rx5.bel hb5_6
  have hB6 : Below q w w6 := hB5.trans (hb5_6.mono z5)
  have z6 : q ≤ w6.heap.size := by have := hb5_6.size; omega
  have ykS_6 := kS6.lt
  have ykF_6 := kF6.lt
  have ykL_6 := kL6.lt
  clear s0 s1 t0 t1 t2 u0 u1 u2 hB5 z5 hb5_6 kS5 kF5 kL5 hr5 rx5 ykS_5 ykF_5 ykL_5
  have s0 := kS6.cell 0; have s1 := kS6.cell 1; simp only [List.getElem?_cons_zero, List.getElem?_cons_succ] at s0 s1
  have t0 := kF6.cell 0; have t1 := kF6.cell 1; have t2 := kF6.cell 2; simp only [List.getElem?_cons_zero, List.getElem?_cons_succ] at t0 t1 t2
  have u0 := kL6.cell 0; have u1 := kL6.cell 1; have u2 := kL6.cell 2; simp only [List.getElem?_cons_zero, List.getElem?_cons_succ] at u0 u1 u2
  clear hb6
  go_upto_region 11 with (go_at_call 53; refine (HSE.out _ hr6).mono ?_; rintro e_ w7 ⟨rfl, hb7⟩)
  have hb6_7 : Below w6.heap.size w6 w7 := hb7
  have kS7 := kS6.bel hb6_7
  have kF7 := kF6.bel hb6_7
  have kL7 := kL6.bel hb6_7
  have hr7 := hr6.bel hb6_7
  have rx7 := rx6.bel hb6_7
  have hB7 : Below q w w7 := hB6.trans (hb6_7.mono z6)
  have z7 : q ≤ w7.heap.size := by have := hb6_7.size; omega
  have ykS_7 := kS7.lt
  have ykF_7 := kF7.lt
  have ykL_7 := kL7.lt
  clear s0 s1 t0 t1 t2 u0 u1 u2 hB6 z6 hb6_7 kS6 kF6 kL6 hr6 rx6 ykS_6 ykF_6 ykL_6
  have s0 := kS7.cell 0; have s1 := kS7.cell 1; simp only [List.getElem?_cons_zero, List.getElem?_cons_succ] at s0 s1
  have t0 := kF7.cell 0; have t1 := kF7.cell 1; have t2 := kF7.cell 2; simp only [List.getElem?_cons_zero, List.getElem?_cons_succ] at t0 t1 t2
  have u0 := kL7.cell 0; have u1 := kL7.cell 1; have u2 := kL7.cell 2; simp only [List.getElem?_cons_zero, List.getElem?_cons_succ] at u0 u1 u2
  clear hb7
  go_upto_region 13 with (go_at_call 24; refine (HFE.out _).mono ?_; rintro e_ w_ ⟨rfl, rfl⟩)
  go_upto_region 17 with (go_at_call 73; refine (HSL.out _).mono ?_; rintro e_ w8 ⟨rfl, hb8⟩)
  have hb7_8 : Below w7.heap.size w7 w8 := hb8
  have kS8 := kS7.bel hb7_8
  have kF8 := kF7.bel hb7_8
  have kL8 := kL7.bel hb7_8
  have hr8 := hr7.bel hb7_8
  have rx8 := rx7.bel hb7_8
  have hB8 : Below q w w8 := hB7.trans (hb7_8.mono z7)
  have z8 : q ≤ w8.heap.size := by have := hb7_8.size; omega
  have ykS_8 := kS8.lt
  have ykF_8 := kF8.lt
  have ykL_8 := kL8.lt
  clear s0 s1 t0 t1 t2 u0 u1 u2 hB7 z7 hb7_8 kS7 kF7 kL7 hr7 rx7 ykS_7 ykF_7 ykL_7
  have s0 := kS8.cell 0; have s1 := kS8.cell 1; simp only [List.getElem?_cons_zero, List.getElem?_cons_succ] at s0 s1
  have t0 := kF8.cell 0; have t1 := kF8.cell 1; have t2 := kF8.cell 2; simp only [List.getElem?_cons_zero, List.getElem?_cons_succ] at t0 t1 t2
  have u0 := kL8.cell 0; have u1 := kL8.cell 1; have u2 := kL8.cell 2; simp only [List.getElem?_cons_zero, List.getElem?_cons_succ] at u0 u1 u2
  clear hb8
  go_upto_region 19 with fail
  go_upto_region 20 with (go_at_call 53; refine (HSE.out _ hr8).mono ?_; rintro e_ w11 ⟨rfl, hb11⟩)
  have hb8_11 : Below w8.heap.size w8 w11 := hb11
  have kS11 := kS8.bel hb8_11
  have kF11 := kF8.bel hb8_11
  have kL11 := kL8.bel hb8_11
  have hr11 := hr8.bel hb8_11
  have rx11 := rx8.bel hb8_11
  have hB11 : Below q w w11 := hB8.trans (hb8_11.mono z8)
  have z11 : q ≤ w11.heap.size := by have := hb8_11.size; omega
  have ykS_11 := kS11.lt
  have ykF_11 := kF11.lt
  have ykL_11 := kL11.lt
  clear s0 s1 t0 t1 t2 u0 u1 u2 hB8 z8 hb8_11 kS8 kF8 kL8 hr8 rx8 ykS_8 ykF_8 ykL_8
  have s0 := kS11.cell 0; have s1 := kS11.cell 1; simp only [List.getElem?_cons_zero, List.getElem?_cons_succ] at s0 s1
  have t0 := kF11.cell 0; have t1 := kF11.cell 1; have t2 := kF11.cell 2; simp only [List.getElem?_cons_zero, List.getElem?_cons_succ] at t0 t1 t2
  have u0 := kL11.cell 0; have u1 := kL11.cell 1; have u2 := kL11.cell 2; simp only [List.getElem?_cons_zero, List.getElem?_cons_succ] at u0 u1 u2
  clear hb11
  go_upto_region 24 with (go_at_call 76; refine (HSH.out _).mono ?_; rintro e_ w12 ⟨rfl, hb12⟩)
  have hb11_12 : Below w11.heap.size w11 w12 := hb12
  have kS12 := kS11.bel hb11_12
  have kF12 := kF11.bel hb11_12
  have kL12 := kL11.bel hb11_12
  have hr12 := hr11.bel hb11_12
  have rx12 := rx11.bel hb11_12
  have hB12 : Below q w w12 := hB11.trans (hb11_12.mono z11)
  have z12 : q ≤ w12.heap.size := by have := hb11_12.size; omega
  have ykS_12 := kS12.lt
  have ykF_12 := kF12.lt
  have ykL_12 := kL12.lt
  clear s0 s1 t0 t1 t2 u0 u1 u2 hB11 z11 hb11_12 kS11 kF11 kL11 hr11 rx11 ykS_11 ykF_11 ykL_11
  have s0 := kS12.cell 0; have s1 := kS12.cell 1; simp only [List.getElem?_cons_zero, List.getElem?_cons_succ] at s0 s1
  have t0 := kF12.cell 0; have t1 := kF12.cell 1; have t2 := kF12.cell 2; simp only [List.getElem?_cons_zero, List.getElem?_cons_succ] at t0 t1 t2
  have u0 := kL12.cell 0; have u1 := kL12.cell 1; have u2 := kL12.cell 2; simp only [List.getElem?_cons_zero, List.getElem?_cons_succ] at u0 u1 u2
  clear hb12
  go_wp2
  go_ret
  exact ⟨rfl, by first | exact hB12 | (rw [hq]; exact hB12)⟩
set_option maxHeartbeats 16000000 in
theorem fieldsLaw_00010 (H gy lo hi f n d : Int) (A : Option Addr) (c : Nat) (l : List G) (w : World) (hr : Rd w A (gs l)) (hl : l.length ≤ 14) (g1 : -9223372036854775808 ≤ n ∧ n ≤ 9223372036854775807) (g2 : d ≤ 9223372036854775807) (hs : (skyE H l).2 = 0) (hfr : freqE f = 0) (hfd : fieldE gy lo hi = 0) (hla : launchE n d ≠ 0) (hsl : gyroE f gy = 0) :
    Calls Try.prog 11 #[.agg #[.int .i64 H, .slice A l.length c], .agg #[.int .i64 gy, .int .i64 lo, .int .i64 hi], .agg #[.int .i64 f, .int .i64 n, .int .i64 d]] w fun r w' => r = .returned (.bool true) ∧ Below w.heap.size w w' := by
  have HCP := hide (fun W (h : Rd W A (gs l)) => copySky_c H A c l W h (by omega))
  have HFW := hide (fun W => few_c H A c l W)
  rw [decide_eq_true (show (l.length : Int) ≤ 14 by omega)] at HFW
  have HSE := hide (fun W (h : Rd W A (gs l)) => refSkyErr_c H A c l W h (by omega))
  have HFE := hide (fun W => frequencyErr_c f W)
  have HXE := hide (fun W => refFieldErr_c gy lo hi W)
  have HXC := hide (fun W => checkField_c gy lo hi W)
  have HSH := hide (fun W => refShotErr_c f n d W g1.1 g1.2 g2)
  have HSL := hide (fun W => refSlowErr_c f gy lo hi W)
  have HIS := hide (fun A' c' W (h : Rd W A' (gs l)) => indexSpans_c H f gy lo hi A' c' l W h (by omega))
  have HRW := hide (fun A' c' W (h : Rd W A' (gs l)) => reflectsWith_c H gy lo hi f n d A' c' l W h (by omega) g1.1 g1.2 g2)
  have hshot : shotE f n d = launchE n d := by unfold shotE; rw [hfr]; exact firstE_01b _
  have hx1 : spaE H f gy lo hi l = 0 := by unfold spaE; rw [hs, hfr, hfd, hsl]; rfl
  rw [show spaN H f gy lo hi l = l.length by unfold spaN; rw [if_pos hx1], show spaL H f gy lo hi l = spnL f gy lo hi l by unfold spaL; rw [if_pos hx1], hx1] at HIS
  clear hx1
  have hx2 : refE H gy lo hi f n d l = launchE n d := by unfold refE; simp [firstE, hs, hfr, hfd, hla, hsl, hshot]
  rw [show refQ H gy lo hi f n d l = (0, launchE n d) by unfold refQ; rw [if_pos (by rw [hx2]; exact hla), hx2]] at HRW
  clear hx2
  obtain ⟨H0, H1, l0, l1, hok⟩ := skyE_zero hs
  have hoF := okF hfr hfd hsl
  have HSP := hide (fun W (h : Rd W A (gs l)) => refSpans_c H f gy lo hi A c l W h l1 hok hoF)
  have HSS := hide (fun A1 c1 A2 c2 W (h1 : Rd W A1 (gs (spnL f gy lo hi l))) (h2 : Rd W A2 (gs (spnL f gy lo hi l))) => sameSpans_c (spnL f gy lo hi l) l.length (spnL_len f gy lo hi l) (by omega) A1 A2 c1 c2 W h1 h2)
  clear hok hoF H0 H1 l0 l1
  dsimp only at HRW
  rw [hshot] at HSH
  clear hshot
  try rw [hs] at HSE
  try rw [hs] at HFE
  try rw [hs] at HXE
  try rw [hs] at HXC
  try rw [hs] at HSH
  try rw [hs] at HSL
  try rw [hs] at HIS
  try rw [hs] at HRW
  clear hs
  try rw [hfr] at HSE
  try rw [hfr] at HFE
  try rw [hfr] at HXE
  try rw [hfr] at HXC
  try rw [hfr] at HSH
  try rw [hfr] at HSL
  try rw [hfr] at HIS
  try rw [hfr] at HRW
  clear hfr
  try rw [hfd] at HSE
  try rw [hfd] at HFE
  try rw [hfd] at HXE
  try rw [hfd] at HXC
  try rw [hfd] at HSH
  try rw [hfd] at HSL
  try rw [hfd] at HIS
  try rw [hfd] at HRW
  clear hfd
  generalize launchE n d = el at *
  have el1 : (el != 0) = true := by simpa using hla
  have el2 : (el == 0) = false := by simpa using hla
  have el9 : ¬ el = 0 := hla
  clear hla
  try rw [hsl] at HSE
  try rw [hsl] at HFE
  try rw [hsl] at HXE
  try rw [hsl] at HXC
  try rw [hsl] at HSH
  try rw [hsl] at HSL
  try rw [hsl] at HIS
  try rw [hsl] at HRW
  clear hsl
  obtain ⟨q, hq⟩ : ∃ q, w.heap.size = q := ⟨_, rfl⟩
  obtain ⟨q1, hq1⟩ : ∃ q1, q + 1 = q1 := ⟨_, rfl⟩
  obtain ⟨q2, hq2⟩ : ∃ q2, q1 + 1 = q2 := ⟨_, rfl⟩
  obtain ⟨Wa, hWa⟩ : ∃ Wa, w.alloc (.cells #[.int .i64 H, .slice A l.length c] 24) = Wa := ⟨_, rfl⟩
  have ba : Below w.heap.size w Wa := by rw [← hWa]; exact alloc_bel _ _
  have sa : Wa.heap.size = q1 := by rw [← hWa, ← hq1, ← hq]; simp
  have ka : Blk Wa q 24 [.int .i64 H, .slice A l.length c] := by rw [← hWa, ← hq]; exact Blk.new w _ [_, _]
  obtain ⟨Wb, hWb⟩ : ∃ Wb, Wa.alloc (.cells #[.int .i64 gy, .int .i64 lo, .int .i64 hi] 121) = Wb := ⟨_, rfl⟩
  have bb : Below Wa.heap.size Wa Wb := by rw [← hWb]; exact alloc_bel _ _
  have sb : Wb.heap.size = q2 := by rw [← hWb, ← hq2, ← sa]; simp
  have kb : Blk Wb q1 121 [.int .i64 gy, .int .i64 lo, .int .i64 hi] := by rw [← hWb, ← sa]; exact Blk.new Wa _ [_, _, _]
  obtain ⟨w0, hWc⟩ : ∃ w0, Wb.alloc (.cells #[.int .i64 f, .int .i64 n, .int .i64 d] 123) = w0 := ⟨_, rfl⟩
  have bc : Below Wb.heap.size Wb w0 := by rw [← hWc]; exact alloc_bel _ _
  have kL0 : Blk w0 q2 123 [.int .i64 f, .int .i64 n, .int .i64 d] := by rw [← hWc, ← sb]; exact Blk.new Wb _ [_, _, _]
  have hABC : ((w.alloc (.cells #[.int .i64 H, .slice A l.length c] 24)).alloc (.cells #[.int .i64 gy, .int .i64 lo, .int .i64 hi] 121)).alloc (.cells #[.int .i64 f, .int .i64 n, .int .i64 d] 123) = w0 := by rw [hWa, hWb, hWc]
  have HW := hide hABC
  have kS0 := (ka.bel bb).bel bc
  have kF0 := kb.bel bc
  have hr0 := ((hr.bel ba).bel bb).bel bc
  have hB0 : Below q w w0 := by
    rw [hq] at ba
    exact (ba.trans (bb.mono (by omega))).trans (bc.mono (by omega))
  have z0 : q ≤ w0.heap.size := by have := kS0.lt; omega
  clear hABC hWa hWb hWc ba bb bc ka kb sa sb
  have ykS_0 := kS0.lt
  have ykF_0 := kF0.lt
  have ykL_0 := kL0.lt
  have s0 := kS0.cell 0; have s1 := kS0.cell 1; simp only [List.getElem?_cons_zero, List.getElem?_cons_succ] at s0 s1
  have t0 := kF0.cell 0; have t1 := kF0.cell 1; have t2 := kF0.cell 2; simp only [List.getElem?_cons_zero, List.getElem?_cons_succ] at t0 t1 t2
  have u0 := kL0.cell 0; have u1 := kL0.cell 1; have u2 := kL0.cell 2; simp only [List.getElem?_cons_zero, List.getElem?_cons_succ] at u0 u1 u2
  go_enter Try.func11, Try.ntmps11
  go_upto_region 1 with fail
  try simp only [World.size_alloc, hq, hq1, hq2]
  rw [HW.out]
  go_upto_region 3 with (go_at_call 15; refine (awake_c _).mono ?_; rintro e_ w1 ⟨rfl, hb1⟩)
  have hb0_1 : Below w0.heap.size w0 w1 := hb1
  have kS1 := kS0.bel hb0_1
  have kF1 := kF0.bel hb0_1
  have kL1 := kL0.bel hb0_1
  have hr1 := hr0.bel hb0_1
  have hB1 : Below q w w1 := hB0.trans (hb0_1.mono z0)
  have z1 : q ≤ w1.heap.size := by have := hb0_1.size; omega
  have ykS_1 := kS1.lt
  have ykF_1 := kF1.lt
  have ykL_1 := kL1.lt
  clear s0 s1 t0 t1 t2 u0 u1 u2 hB0 z0 hb0_1 kS0 kF0 kL0 hr0 ykS_0 ykF_0 ykL_0
  have s0 := kS1.cell 0; have s1 := kS1.cell 1; simp only [List.getElem?_cons_zero, List.getElem?_cons_succ] at s0 s1
  have t0 := kF1.cell 0; have t1 := kF1.cell 1; have t2 := kF1.cell 2; simp only [List.getElem?_cons_zero, List.getElem?_cons_succ] at t0 t1 t2
  have u0 := kL1.cell 0; have u1 := kL1.cell 1; have u2 := kL1.cell 2; simp only [List.getElem?_cons_zero, List.getElem?_cons_succ] at u0 u1 u2
  go_upto_region 5 with (go_at_call 16; refine (HFW.out _).mono ?_; rintro e_ w2 ⟨rfl, hb2⟩)
  have hb1_2 : Below w1.heap.size w1 w2 := hb2
  have kS2 := kS1.bel hb1_2
  have kF2 := kF1.bel hb1_2
  have kL2 := kL1.bel hb1_2
  have hr2 := hr1.bel hb1_2
  have hB2 : Below q w w2 := hB1.trans (hb1_2.mono z1)
  have z2 : q ≤ w2.heap.size := by have := hb1_2.size; omega
  have ykS_2 := kS2.lt
  have ykF_2 := kF2.lt
  have ykL_2 := kL2.lt
  clear s0 s1 t0 t1 t2 u0 u1 u2 hB1 z1 hb1_2 kS1 kF1 kL1 hr1 ykS_1 ykF_1 ykL_1
  have s0 := kS2.cell 0; have s1 := kS2.cell 1; simp only [List.getElem?_cons_zero, List.getElem?_cons_succ] at s0 s1
  have t0 := kF2.cell 0; have t1 := kF2.cell 1; have t2 := kF2.cell 2; simp only [List.getElem?_cons_zero, List.getElem?_cons_succ] at t0 t1 t2
  have u0 := kL2.cell 0; have u1 := kL2.cell 1; have u2 := kL2.cell 2; simp only [List.getElem?_cons_zero, List.getElem?_cons_succ] at u0 u1 u2
  have hSd : (∀ b o, b < w2.heap.size → w2.drew.cell? ⟨b, o, none⟩ = w2.cell? ⟨b, o, none⟩) ∧ Below w2.heap.size w2 w2.drew := kp (Below.refl _ _).drew
  refine wp_region_held (S := fun w' => (∀ b o, b < w2.heap.size → w'.cell? ⟨b, o, none⟩ = w2.cell? ⟨b, o, none⟩) ∧ Below w2.heap.size w2 w') (by kernel_rfl) ?_
  change wpAnyH _ _ _ _ _ _ _ _ w2.drew
  refine wpAnyH_take (i := 0) (v := ?_) rfl (by kernel_rfl) (by kernel_rfl) (by kernel_rfl) (fun _ _ _ h => h) (Or.inl ⟨by kernel_rfl, ?_⟩) (by assumption) ?_
  rotate_left 1
  · (intro w hSw; obtain ⟨hk1, hk2⟩ := hSw; go_simp <;> with_reducible rfl)
  simp only [Act.put, List.getElem_toArray, List.getElem_cons_zero, List.setIfInBounds_toArray, List.set_cons_zero, List.set_cons_succ]
  refine wpAnyH_take (i := 2) (v := ?_) rfl (by kernel_rfl) (by kernel_rfl) (by kernel_rfl) (fun _ _ _ h => h) (Or.inl ⟨by kernel_rfl, ?_⟩) (by assumption) ?_
  rotate_left 1
  · (intro w hSw; obtain ⟨hk1, hk2⟩ := hSw; go_simp <;> with_reducible rfl)
  simp only [Act.put, List.getElem_toArray, List.getElem_cons_zero, List.getElem_cons_succ, List.setIfInBounds_toArray, List.set_cons_zero, List.set_cons_succ]
  refine wpAnyH_take (i := 3) (v := ?_) rfl (by kernel_rfl) (by kernel_rfl) (by kernel_rfl) (fun _ _ _ h => h) (Or.inl ⟨by kernel_rfl, ?_⟩) (by assumption) ?_
  rotate_left 1
  · (intro w hSw; obtain ⟨hk1, hk2⟩ := hSw; go_simp <;> with_reducible rfl)
  simp only [Act.put, List.getElem_toArray, List.getElem_cons_zero, List.getElem_cons_succ, List.setIfInBounds_toArray, List.set_cons_zero, List.set_cons_succ]
  refine wpAnyH_take (i := 4) (v := ?_) rfl (by kernel_rfl) (by kernel_rfl) (by kernel_rfl) (fun _ _ _ h => h) (Or.inl ⟨by kernel_rfl, ?_⟩) (by assumption) ?_
  rotate_left 1
  · (intro w hSw; obtain ⟨hk1, hk2⟩ := hSw; go_simp <;> with_reducible rfl)
  simp only [Act.put, List.getElem_toArray, List.getElem_cons_zero, List.getElem_cons_succ, List.setIfInBounds_toArray, List.set_cons_zero, List.set_cons_succ]
  refine nextH (i := 1) (by kernel_rfl) rfl (fun K hK => ?_)
  go_simp
  refine (HCP.out _ (hr2.bel hSd.2)).mono ?_
  rintro e_ wp ⟨⟨Ap, cp, rfl, rap, rcp⟩, hbp⟩
  have hS' := kp (bel_tr hSd.2 hSd.2.size hbp)
  try dsimp only
  refine hK _ _ hS' ?_
  clear hK K hSd
  have hSd := hS'
  clear hS'
  refine nextH (i := 5) (by kernel_rfl) rfl (fun K hK => ?_)
  go_simp
  refine (HIS.out _ _ _ rap).mono ?_
  rintro e_ w3 ⟨⟨A3, c3, rfl, rx3⟩, hb3⟩
  have hS' := kp (bel_tr hSd.2 hSd.2.size hb3)
  try dsimp only
  refine hK _ _ hS' ?_
  clear hK K hSd
  have hSd := hS'
  clear hS'
  refine wpAnyH_take (i := 6) (v := ?_) rfl (by kernel_rfl) (by kernel_rfl) (by kernel_rfl) (fun _ _ _ h => h) (Or.inl ⟨by kernel_rfl, ?_⟩) (by assumption) ?_
  rotate_left 1
  · (intro w hSw; obtain ⟨hk1, hk2⟩ := hSw; go_simp <;> with_reducible rfl)
  simp only [Act.put, List.getElem_toArray, List.getElem_cons_zero, List.getElem_cons_succ, List.setIfInBounds_toArray, List.set_cons_zero, List.set_cons_succ]
  refine wpAnyH_take (i := 7) (v := ?_) rfl (by kernel_rfl) (by kernel_rfl) (by kernel_rfl) (fun _ _ _ h => h) (Or.inl ⟨by kernel_rfl, ?_⟩) (by assumption) ?_
  rotate_left 1
  · (intro w hSw; obtain ⟨hk1, hk2⟩ := hSw; go_simp <;> with_reducible rfl)
  simp only [Act.put, List.getElem_toArray, List.getElem_cons_zero, List.getElem_cons_succ, List.setIfInBounds_toArray, List.set_cons_zero, List.set_cons_succ]
  refine wpAnyH_take (i := 8) (v := ?_) rfl (by kernel_rfl) (by kernel_rfl) (by kernel_rfl) (fun _ _ _ h => h) (Or.inl ⟨by kernel_rfl, ?_⟩) (by assumption) ?_
  rotate_left 1
  · (intro w hSw; obtain ⟨hk1, hk2⟩ := hSw; go_simp <;> with_reducible rfl)
  simp only [Act.put, List.getElem_toArray, List.getElem_cons_zero, List.getElem_cons_succ, List.setIfInBounds_toArray, List.set_cons_zero, List.set_cons_succ]
  refine wpAnyH_take (i := 9) (v := ?_) rfl (by kernel_rfl) (by kernel_rfl) (by kernel_rfl) (fun _ _ _ h => h) (Or.inl ⟨by kernel_rfl, ?_⟩) (by assumption) ?_
  rotate_left 1
  · (intro w hSw; obtain ⟨hk1, hk2⟩ := hSw; go_simp <;> with_reducible rfl)
  simp only [Act.put, List.getElem_toArray, List.getElem_cons_zero, List.getElem_cons_succ, List.setIfInBounds_toArray, List.set_cons_zero, List.set_cons_succ]
  refine wpAnyH_take (i := 10) (v := ?_) rfl (by kernel_rfl) (by kernel_rfl) (by kernel_rfl) (fun _ _ _ h => h) (Or.inl ⟨by kernel_rfl, ?_⟩) (by assumption) ?_
  rotate_left 1
  · (intro w hSw; obtain ⟨hk1, hk2⟩ := hSw; go_simp <;> with_reducible rfl)
  simp only [Act.put, List.getElem_toArray, List.getElem_cons_zero, List.getElem_cons_succ, List.setIfInBounds_toArray, List.set_cons_zero, List.set_cons_succ]
  refine wpAnyH_done (by kernel_rfl) ?_ _
  have hb2_3 : Below w2.heap.size w2 w3 := hSd.2
  have kS3 := kS2.bel hb2_3
  have kF3 := kF2.bel hb2_3
  have kL3 := kL2.bel hb2_3
  have hr3 := hr2.bel hb2_3
  have hB3 : Below q w w3 := hB2.trans (hb2_3.mono z2)
  have z3 : q ≤ w3.heap.size := by have := hb2_3.size; omega
  have ykS_3 := kS3.lt
  have ykF_3 := kF3.lt
  have ykL_3 := kL3.lt
  clear s0 s1 t0 t1 t2 u0 u1 u2 hB2 z2 hb2_3 kS2 kF2 kL2 hr2 ykS_2 ykF_2 ykL_2
  have s0 := kS3.cell 0; have s1 := kS3.cell 1; simp only [List.getElem?_cons_zero, List.getElem?_cons_succ] at s0 s1
  have t0 := kF3.cell 0; have t1 := kF3.cell 1; have t2 := kF3.cell 2; simp only [List.getElem?_cons_zero, List.getElem?_cons_succ] at t0 t1 t2
  have u0 := kL3.cell 0; have u1 := kL3.cell 1; have u2 := kL3.cell 2; simp only [List.getElem?_cons_zero, List.getElem?_cons_succ] at u0 u1 u2
  clear hSd hbp hb3 rap rcp
  go_upto_region 6 with fail
  have hSd : (∀ b o, b < w3.heap.size → w3.drew.cell? ⟨b, o, none⟩ = w3.cell? ⟨b, o, none⟩) ∧ Below w3.heap.size w3 w3.drew := kp (Below.refl _ _).drew
  refine wp_region_held (S := fun w' => (∀ b o, b < w3.heap.size → w'.cell? ⟨b, o, none⟩ = w3.cell? ⟨b, o, none⟩) ∧ Below w3.heap.size w3 w') (by kernel_rfl) ?_
  change wpAnyH _ _ _ _ _ _ _ _ w3.drew
  refine wpAnyH_take (i := 0) (v := ?_) rfl (by kernel_rfl) (by kernel_rfl) (by kernel_rfl) (fun _ _ _ h => h) (Or.inl ⟨by kernel_rfl, ?_⟩) (by assumption) ?_
  rotate_left 1
  · (intro w hSw; obtain ⟨hk1, hk2⟩ := hSw; go_simp <;> with_reducible rfl)
  simp only [Act.put, List.getElem_toArray, List.getElem_cons_zero, List.setIfInBounds_toArray, List.set_cons_zero, List.set_cons_succ]
  refine wpAnyH_take (i := 2) (v := ?_) rfl (by kernel_rfl) (by kernel_rfl) (by kernel_rfl) (fun _ _ _ h => h) (Or.inl ⟨by kernel_rfl, ?_⟩) (by assumption) ?_
  rotate_left 1
  · (intro w hSw; obtain ⟨hk1, hk2⟩ := hSw; go_simp <;> with_reducible rfl)
  simp only [Act.put, List.getElem_toArray, List.getElem_cons_zero, List.getElem_cons_succ, List.setIfInBounds_toArray, List.set_cons_zero, List.set_cons_succ]
  refine wpAnyH_take (i := 3) (v := ?_) rfl (by kernel_rfl) (by kernel_rfl) (by kernel_rfl) (fun _ _ _ h => h) (Or.inl ⟨by kernel_rfl, ?_⟩) (by assumption) ?_
  rotate_left 1
  · (intro w hSw; obtain ⟨hk1, hk2⟩ := hSw; go_simp <;> with_reducible rfl)
  simp only [Act.put, List.getElem_toArray, List.getElem_cons_zero, List.getElem_cons_succ, List.setIfInBounds_toArray, List.set_cons_zero, List.set_cons_succ]
  refine nextH (i := 1) (by kernel_rfl) rfl (fun K hK => ?_)
  go_simp
  refine (HCP.out _ (hr3.bel hSd.2)).mono ?_
  rintro e_ wp ⟨⟨Ap, cp, rfl, rap, rcp⟩, hbp⟩
  have hS' := kp (bel_tr hSd.2 hSd.2.size hbp)
  try dsimp only
  refine hK _ _ hS' ?_
  clear hK K hSd
  have hSd := hS'
  clear hS'
  refine nextH (i := 4) (by kernel_rfl) rfl (fun K hK => ?_)
  go_simp
  refine (HRW.out _ _ _ rap).mono ?_
  rintro e_ w4 ⟨rfl, hb4⟩
  have hS' := kp (bel_tr hSd.2 hSd.2.size hb4)
  try dsimp only
  refine hK _ _ hS' ?_
  clear hK K hSd
  have hSd := hS'
  clear hS'
  refine wpAnyH_take (i := 5) (v := ?_) rfl (by kernel_rfl) (by kernel_rfl) (by kernel_rfl) (fun _ _ _ h => h) (Or.inl ⟨by kernel_rfl, ?_⟩) (by assumption) ?_
  rotate_left 1
  · (intro w hSw; obtain ⟨hk1, hk2⟩ := hSw; go_simp <;> with_reducible rfl)
  simp only [Act.put, List.getElem_toArray, List.getElem_cons_zero, List.getElem_cons_succ, List.setIfInBounds_toArray, List.set_cons_zero, List.set_cons_succ]
  refine wpAnyH_take (i := 6) (v := ?_) rfl (by kernel_rfl) (by kernel_rfl) (by kernel_rfl) (fun _ _ _ h => h) (Or.inl ⟨by kernel_rfl, ?_⟩) (by assumption) ?_
  rotate_left 1
  · (intro w hSw; obtain ⟨hk1, hk2⟩ := hSw; go_simp <;> with_reducible rfl)
  simp only [Act.put, List.getElem_toArray, List.getElem_cons_zero, List.getElem_cons_succ, List.setIfInBounds_toArray, List.set_cons_zero, List.set_cons_succ]
  refine wpAnyH_take (i := 7) (v := ?_) rfl (by kernel_rfl) (by kernel_rfl) (by kernel_rfl) (fun _ _ _ h => h) (Or.inl ⟨by kernel_rfl, ?_⟩) (by assumption) ?_
  rotate_left 1
  · (intro w hSw; obtain ⟨hk1, hk2⟩ := hSw; go_simp <;> with_reducible rfl)
  simp only [Act.put, List.getElem_toArray, List.getElem_cons_zero, List.getElem_cons_succ, List.setIfInBounds_toArray, List.set_cons_zero, List.set_cons_succ]
  refine wpAnyH_take (i := 8) (v := ?_) rfl (by kernel_rfl) (by kernel_rfl) (by kernel_rfl) (fun _ _ _ h => h) (Or.inl ⟨by kernel_rfl, ?_⟩) (by assumption) ?_
  rotate_left 1
  · (intro w hSw; obtain ⟨hk1, hk2⟩ := hSw; go_simp <;> with_reducible rfl)
  simp only [Act.put, List.getElem_toArray, List.getElem_cons_zero, List.getElem_cons_succ, List.setIfInBounds_toArray, List.set_cons_zero, List.set_cons_succ]
  refine wpAnyH_take (i := 9) (v := ?_) rfl (by kernel_rfl) (by kernel_rfl) (by kernel_rfl) (fun _ _ _ h => h) (Or.inl ⟨by kernel_rfl, ?_⟩) (by assumption) ?_
  rotate_left 1
  · (intro w hSw; obtain ⟨hk1, hk2⟩ := hSw; go_simp <;> with_reducible rfl)
  simp only [Act.put, List.getElem_toArray, List.getElem_cons_zero, List.getElem_cons_succ, List.setIfInBounds_toArray, List.set_cons_zero, List.set_cons_succ]
  refine wpAnyH_done (by kernel_rfl) ?_ _
  have hb3_4 : Below w3.heap.size w3 w4 := hSd.2
  have kS4 := kS3.bel hb3_4
  have kF4 := kF3.bel hb3_4
  have kL4 := kL3.bel hb3_4
  have hr4 := hr3.bel hb3_4
  have rx4 := rx3.bel hb3_4
  have hB4 : Below q w w4 := hB3.trans (hb3_4.mono z3)
  have z4 : q ≤ w4.heap.size := by have := hb3_4.size; omega
  have ykS_4 := kS4.lt
  have ykF_4 := kF4.lt
  have ykL_4 := kL4.lt
  clear s0 s1 t0 t1 t2 u0 u1 u2 hB3 z3 hb3_4 kS3 kF3 kL3 hr3 rx3 ykS_3 ykF_3 ykL_3
  have s0 := kS4.cell 0; have s1 := kS4.cell 1; simp only [List.getElem?_cons_zero, List.getElem?_cons_succ] at s0 s1
  have t0 := kF4.cell 0; have t1 := kF4.cell 1; have t2 := kF4.cell 2; simp only [List.getElem?_cons_zero, List.getElem?_cons_succ] at t0 t1 t2
  have u0 := kL4.cell 0; have u1 := kL4.cell 1; have u2 := kL4.cell 2; simp only [List.getElem?_cons_zero, List.getElem?_cons_succ] at u0 u1 u2
  clear hSd hbp hb4 rap rcp
  go_upto_region 8 with (go_at_call 71; refine (HXE.out _).mono ?_; rintro e_ w5 ⟨rfl, hb5⟩)
  have hb4_5 : Below w4.heap.size w4 w5 := hb5
  have kS5 := kS4.bel hb4_5
  have kF5 := kF4.bel hb4_5
  have kL5 := kL4.bel hb4_5
  have hr5 := hr4.bel hb4_5
  have rx5 := rx4.bel hb4_5
  have hB5 : Below q w w5 := hB4.trans (hb4_5.mono z4)
  have z5 : q ≤ w5.heap.size := by have := hb4_5.size; omega
  have ykS_5 := kS5.lt
  have ykF_5 := kF5.lt
  have ykL_5 := kL5.lt
  clear s0 s1 t0 t1 t2 u0 u1 u2 hB4 z4 hb4_5 kS4 kF4 kL4 hr4 rx4 ykS_4 ykF_4 ykL_4
  have s0 := kS5.cell 0; have s1 := kS5.cell 1; simp only [List.getElem?_cons_zero, List.getElem?_cons_succ] at s0 s1
  have t0 := kF5.cell 0; have t1 := kF5.cell 1; have t2 := kF5.cell 2; simp only [List.getElem?_cons_zero, List.getElem?_cons_succ] at t0 t1 t2
  have u0 := kL5.cell 0; have u1 := kL5.cell 1; have u2 := kL5.cell 2; simp only [List.getElem?_cons_zero, List.getElem?_cons_succ] at u0 u1 u2
  clear hb5
  go_upto_region 10 with (go_at_call 72; refine (HXC.out _).mono ?_; rintro e_ w6 ⟨rfl, hb6⟩)
  have hb5_6 : Below w5.heap.size w5 w6 := hb6
  have kS6 := kS5.bel hb5_6
  have kF6 := kF5.bel hb5_6
  have kL6 := kL5.bel hb5_6
  have hr6 := hr5.bel hb5_6
  have rx6 := rx5.bel hb5_6
  have hB6 : Below q w w6 := hB5.trans (hb5_6.mono z5)
  have z6 : q ≤ w6.heap.size := by have := hb5_6.size; omega
  have ykS_6 := kS6.lt
  have ykF_6 := kF6.lt
  have ykL_6 := kL6.lt
  clear s0 s1 t0 t1 t2 u0 u1 u2 hB5 z5 hb5_6 kS5 kF5 kL5 hr5 rx5 ykS_5 ykF_5 ykL_5
  have s0 := kS6.cell 0; have s1 := kS6.cell 1; simp only [List.getElem?_cons_zero, List.getElem?_cons_succ] at s0 s1
  have t0 := kF6.cell 0; have t1 := kF6.cell 1; have t2 := kF6.cell 2; simp only [List.getElem?_cons_zero, List.getElem?_cons_succ] at t0 t1 t2
  have u0 := kL6.cell 0; have u1 := kL6.cell 1; have u2 := kL6.cell 2; simp only [List.getElem?_cons_zero, List.getElem?_cons_succ] at u0 u1 u2
  clear hb6
  go_upto_region 11 with (go_at_call 53; refine (HSE.out _ hr6).mono ?_; rintro e_ w7 ⟨rfl, hb7⟩)
  have hb6_7 : Below w6.heap.size w6 w7 := hb7
  have kS7 := kS6.bel hb6_7
  have kF7 := kF6.bel hb6_7
  have kL7 := kL6.bel hb6_7
  have hr7 := hr6.bel hb6_7
  have rx7 := rx6.bel hb6_7
  have hB7 : Below q w w7 := hB6.trans (hb6_7.mono z6)
  have z7 : q ≤ w7.heap.size := by have := hb6_7.size; omega
  have ykS_7 := kS7.lt
  have ykF_7 := kF7.lt
  have ykL_7 := kL7.lt
  clear s0 s1 t0 t1 t2 u0 u1 u2 hB6 z6 hb6_7 kS6 kF6 kL6 hr6 rx6 ykS_6 ykF_6 ykL_6
  have s0 := kS7.cell 0; have s1 := kS7.cell 1; simp only [List.getElem?_cons_zero, List.getElem?_cons_succ] at s0 s1
  have t0 := kF7.cell 0; have t1 := kF7.cell 1; have t2 := kF7.cell 2; simp only [List.getElem?_cons_zero, List.getElem?_cons_succ] at t0 t1 t2
  have u0 := kL7.cell 0; have u1 := kL7.cell 1; have u2 := kL7.cell 2; simp only [List.getElem?_cons_zero, List.getElem?_cons_succ] at u0 u1 u2
  clear hb7
  go_upto_region 13 with (go_at_call 24; refine (HFE.out _).mono ?_; rintro e_ w_ ⟨rfl, rfl⟩)
  go_upto_region 17 with (go_at_call 73; refine (HSL.out _).mono ?_; rintro e_ w8 ⟨rfl, hb8⟩)
  have hb7_8 : Below w7.heap.size w7 w8 := hb8
  have kS8 := kS7.bel hb7_8
  have kF8 := kF7.bel hb7_8
  have kL8 := kL7.bel hb7_8
  have hr8 := hr7.bel hb7_8
  have rx8 := rx7.bel hb7_8
  have hB8 : Below q w w8 := hB7.trans (hb7_8.mono z7)
  have z8 : q ≤ w8.heap.size := by have := hb7_8.size; omega
  have ykS_8 := kS8.lt
  have ykF_8 := kF8.lt
  have ykL_8 := kL8.lt
  clear s0 s1 t0 t1 t2 u0 u1 u2 hB7 z7 hb7_8 kS7 kF7 kL7 hr7 rx7 ykS_7 ykF_7 ykL_7
  have s0 := kS8.cell 0; have s1 := kS8.cell 1; simp only [List.getElem?_cons_zero, List.getElem?_cons_succ] at s0 s1
  have t0 := kF8.cell 0; have t1 := kF8.cell 1; have t2 := kF8.cell 2; simp only [List.getElem?_cons_zero, List.getElem?_cons_succ] at t0 t1 t2
  have u0 := kL8.cell 0; have u1 := kL8.cell 1; have u2 := kL8.cell 2; simp only [List.getElem?_cons_zero, List.getElem?_cons_succ] at u0 u1 u2
  clear hb8
  go_upto_region 19 with (first
    | (go_at_call 75; refine (HSP.out _ hr8).mono ?_; rintro e_ w9 ⟨⟨A9, c9, rfl, ra9⟩, hb9⟩)
    | (go_at_call 74; refine (HSS.out _ _ _ _ _ (rx8.bel hb9) ra9).mono ?_; rintro e_ w10 ⟨rfl, hb10⟩))
  have hb8_10 : Below w8.heap.size w8 w10 := bel_tr hb9 hb9.size hb10
  have kS10 := kS8.bel hb8_10
  have kF10 := kF8.bel hb8_10
  have kL10 := kL8.bel hb8_10
  have hr10 := hr8.bel hb8_10
  have rx10 := rx8.bel hb8_10
  have hB10 : Below q w w10 := hB8.trans (hb8_10.mono z8)
  have z10 : q ≤ w10.heap.size := by have := hb8_10.size; omega
  have ykS_10 := kS10.lt
  have ykF_10 := kF10.lt
  have ykL_10 := kL10.lt
  clear s0 s1 t0 t1 t2 u0 u1 u2 hB8 z8 hb8_10 kS8 kF8 kL8 hr8 rx8 ykS_8 ykF_8 ykL_8
  have s0 := kS10.cell 0; have s1 := kS10.cell 1; simp only [List.getElem?_cons_zero, List.getElem?_cons_succ] at s0 s1
  have t0 := kF10.cell 0; have t1 := kF10.cell 1; have t2 := kF10.cell 2; simp only [List.getElem?_cons_zero, List.getElem?_cons_succ] at t0 t1 t2
  have u0 := kL10.cell 0; have u1 := kL10.cell 1; have u2 := kL10.cell 2; simp only [List.getElem?_cons_zero, List.getElem?_cons_succ] at u0 u1 u2
  clear hb9 hb10 ra9
  go_upto_region 20 with (go_at_call 53; refine (HSE.out _ hr10).mono ?_; rintro e_ w11 ⟨rfl, hb11⟩)
  have hb10_11 : Below w10.heap.size w10 w11 := hb11
  have kS11 := kS10.bel hb10_11
  have kF11 := kF10.bel hb10_11
  have kL11 := kL10.bel hb10_11
  have hr11 := hr10.bel hb10_11
  have rx11 := rx10.bel hb10_11
  have hB11 : Below q w w11 := hB10.trans (hb10_11.mono z10)
  have z11 : q ≤ w11.heap.size := by have := hb10_11.size; omega
  have ykS_11 := kS11.lt
  have ykF_11 := kF11.lt
  have ykL_11 := kL11.lt
  clear s0 s1 t0 t1 t2 u0 u1 u2 hB10 z10 hb10_11 kS10 kF10 kL10 hr10 rx10 ykS_10 ykF_10 ykL_10
  have s0 := kS11.cell 0; have s1 := kS11.cell 1; simp only [List.getElem?_cons_zero, List.getElem?_cons_succ] at s0 s1
  have t0 := kF11.cell 0; have t1 := kF11.cell 1; have t2 := kF11.cell 2; simp only [List.getElem?_cons_zero, List.getElem?_cons_succ] at t0 t1 t2
  have u0 := kL11.cell 0; have u1 := kL11.cell 1; have u2 := kL11.cell 2; simp only [List.getElem?_cons_zero, List.getElem?_cons_succ] at u0 u1 u2
  clear hb11
  go_upto_region 24 with (go_at_call 76; refine (HSH.out _).mono ?_; rintro e_ w12 ⟨rfl, hb12⟩)
  have hb11_12 : Below w11.heap.size w11 w12 := hb12
  have kS12 := kS11.bel hb11_12
  have kF12 := kF11.bel hb11_12
  have kL12 := kL11.bel hb11_12
  have hr12 := hr11.bel hb11_12
  have rx12 := rx11.bel hb11_12
  have hB12 : Below q w w12 := hB11.trans (hb11_12.mono z11)
  have z12 : q ≤ w12.heap.size := by have := hb11_12.size; omega
  have ykS_12 := kS12.lt
  have ykF_12 := kF12.lt
  have ykL_12 := kL12.lt
  clear s0 s1 t0 t1 t2 u0 u1 u2 hB11 z11 hb11_12 kS11 kF11 kL11 hr11 rx11 ykS_11 ykF_11 ykL_11
  have s0 := kS12.cell 0; have s1 := kS12.cell 1; simp only [List.getElem?_cons_zero, List.getElem?_cons_succ] at s0 s1
  have t0 := kF12.cell 0; have t1 := kF12.cell 1; have t2 := kF12.cell 2; simp only [List.getElem?_cons_zero, List.getElem?_cons_succ] at t0 t1 t2
  have u0 := kL12.cell 0; have u1 := kL12.cell 1; have u2 := kL12.cell 2; simp only [List.getElem?_cons_zero, List.getElem?_cons_succ] at u0 u1 u2
  clear hb12
  go_wp2
  go_ret
  exact ⟨rfl, by first | exact hB12 | (rw [hq]; exact hB12)⟩
end Go.Proofs.Ytkcjiejdjdcbeaa

/- The law of fields, ways c. -/
set_option linter.unusedSimpArgs false
set_option linter.unusedVariables false
namespace Go.Proofs.Ytkcjiejdjdcbeaa
open Go.RowKit
set_option maxRecDepth 100000

theorem firstE_01c (e : Int) : firstE [0, e] = e := by by_cases h : e = 0 <;> simp [firstE, h]
set_option maxHeartbeats 16000000 in
theorem fieldsLaw_00001 (H gy lo hi f n d : Int) (A : Option Addr) (c : Nat) (l : List G) (w : World) (hr : Rd w A (gs l)) (hl : l.length ≤ 14) (g1 : -9223372036854775808 ≤ n ∧ n ≤ 9223372036854775807) (g2 : d ≤ 9223372036854775807) (hs : (skyE H l).2 = 0) (hfr : freqE f = 0) (hfd : fieldE gy lo hi = 0) (hla : launchE n d = 0) (hsl : gyroE f gy ≠ 0) :
    Calls Try.prog 11 #[.agg #[.int .i64 H, .slice A l.length c], .agg #[.int .i64 gy, .int .i64 lo, .int .i64 hi], .agg #[.int .i64 f, .int .i64 n, .int .i64 d]] w fun r w' => r = .returned (.bool true) ∧ Below w.heap.size w w' := by
  have HCP := hide (fun W (h : Rd W A (gs l)) => copySky_c H A c l W h (by omega))
  have HFW := hide (fun W => few_c H A c l W)
  rw [decide_eq_true (show (l.length : Int) ≤ 14 by omega)] at HFW
  have HSE := hide (fun W (h : Rd W A (gs l)) => refSkyErr_c H A c l W h (by omega))
  have HFE := hide (fun W => frequencyErr_c f W)
  have HXE := hide (fun W => refFieldErr_c gy lo hi W)
  have HXC := hide (fun W => checkField_c gy lo hi W)
  have HSH := hide (fun W => refShotErr_c f n d W g1.1 g1.2 g2)
  have HSL := hide (fun W => refSlowErr_c f gy lo hi W)
  have HIS := hide (fun A' c' W (h : Rd W A' (gs l)) => indexSpans_c H f gy lo hi A' c' l W h (by omega))
  have HRW := hide (fun A' c' W (h : Rd W A' (gs l)) => reflectsWith_c H gy lo hi f n d A' c' l W h (by omega) g1.1 g1.2 g2)
  have hshot : shotE f n d = launchE n d := by unfold shotE; rw [hfr]; exact firstE_01c _
  have hx1 : spaE H f gy lo hi l = gyroE f gy := by unfold spaE; simp [firstE, hs, hfr, hfd, hla, hsl, hshot]
  have hx1n : spaE H f gy lo hi l ≠ 0 := by rw [hx1]; exact hsl
  rw [show spaN H f gy lo hi l = 0 by unfold spaN; rw [if_neg hx1n], show spaL H f gy lo hi l = [] by unfold spaL; rw [if_neg hx1n], hx1] at HIS
  clear hx1n hx1
  have hx2 : refE H gy lo hi f n d l = gyroE f gy := by unfold refE; simp [firstE, hs, hfr, hfd, hla, hsl, hshot]
  rw [show refQ H gy lo hi f n d l = (0, gyroE f gy) by unfold refQ; rw [if_pos (by rw [hx2]; exact hsl), hx2]] at HRW
  clear hx2
  dsimp only at HRW
  rw [hshot] at HSH
  clear hshot
  try rw [hs] at HSE
  try rw [hs] at HFE
  try rw [hs] at HXE
  try rw [hs] at HXC
  try rw [hs] at HSH
  try rw [hs] at HSL
  try rw [hs] at HIS
  try rw [hs] at HRW
  clear hs
  try rw [hfr] at HSE
  try rw [hfr] at HFE
  try rw [hfr] at HXE
  try rw [hfr] at HXC
  try rw [hfr] at HSH
  try rw [hfr] at HSL
  try rw [hfr] at HIS
  try rw [hfr] at HRW
  clear hfr
  try rw [hfd] at HSE
  try rw [hfd] at HFE
  try rw [hfd] at HXE
  try rw [hfd] at HXC
  try rw [hfd] at HSH
  try rw [hfd] at HSL
  try rw [hfd] at HIS
  try rw [hfd] at HRW
  clear hfd
  try rw [hla] at HSE
  try rw [hla] at HFE
  try rw [hla] at HXE
  try rw [hla] at HXC
  try rw [hla] at HSH
  try rw [hla] at HSL
  try rw [hla] at HIS
  try rw [hla] at HRW
  clear hla
  generalize gyroE f gy = ey at *
  have ey1 : (ey != 0) = true := by simpa using hsl
  have ey2 : (ey == 0) = false := by simpa using hsl
  have ey9 : ¬ ey = 0 := hsl
  clear hsl
  obtain ⟨q, hq⟩ : ∃ q, w.heap.size = q := ⟨_, rfl⟩
  obtain ⟨q1, hq1⟩ : ∃ q1, q + 1 = q1 := ⟨_, rfl⟩
  obtain ⟨q2, hq2⟩ : ∃ q2, q1 + 1 = q2 := ⟨_, rfl⟩
  obtain ⟨Wa, hWa⟩ : ∃ Wa, w.alloc (.cells #[.int .i64 H, .slice A l.length c] 24) = Wa := ⟨_, rfl⟩
  have ba : Below w.heap.size w Wa := by rw [← hWa]; exact alloc_bel _ _
  have sa : Wa.heap.size = q1 := by rw [← hWa, ← hq1, ← hq]; simp
  have ka : Blk Wa q 24 [.int .i64 H, .slice A l.length c] := by rw [← hWa, ← hq]; exact Blk.new w _ [_, _]
  obtain ⟨Wb, hWb⟩ : ∃ Wb, Wa.alloc (.cells #[.int .i64 gy, .int .i64 lo, .int .i64 hi] 121) = Wb := ⟨_, rfl⟩
  have bb : Below Wa.heap.size Wa Wb := by rw [← hWb]; exact alloc_bel _ _
  have sb : Wb.heap.size = q2 := by rw [← hWb, ← hq2, ← sa]; simp
  have kb : Blk Wb q1 121 [.int .i64 gy, .int .i64 lo, .int .i64 hi] := by rw [← hWb, ← sa]; exact Blk.new Wa _ [_, _, _]
  obtain ⟨w0, hWc⟩ : ∃ w0, Wb.alloc (.cells #[.int .i64 f, .int .i64 n, .int .i64 d] 123) = w0 := ⟨_, rfl⟩
  have bc : Below Wb.heap.size Wb w0 := by rw [← hWc]; exact alloc_bel _ _
  have kL0 : Blk w0 q2 123 [.int .i64 f, .int .i64 n, .int .i64 d] := by rw [← hWc, ← sb]; exact Blk.new Wb _ [_, _, _]
  have hABC : ((w.alloc (.cells #[.int .i64 H, .slice A l.length c] 24)).alloc (.cells #[.int .i64 gy, .int .i64 lo, .int .i64 hi] 121)).alloc (.cells #[.int .i64 f, .int .i64 n, .int .i64 d] 123) = w0 := by rw [hWa, hWb, hWc]
  have HW := hide hABC
  have kS0 := (ka.bel bb).bel bc
  have kF0 := kb.bel bc
  have hr0 := ((hr.bel ba).bel bb).bel bc
  have hB0 : Below q w w0 := by
    rw [hq] at ba
    exact (ba.trans (bb.mono (by omega))).trans (bc.mono (by omega))
  have z0 : q ≤ w0.heap.size := by have := kS0.lt; omega
  clear hABC hWa hWb hWc ba bb bc ka kb sa sb
  have ykS_0 := kS0.lt
  have ykF_0 := kF0.lt
  have ykL_0 := kL0.lt
  have s0 := kS0.cell 0; have s1 := kS0.cell 1; simp only [List.getElem?_cons_zero, List.getElem?_cons_succ] at s0 s1
  have t0 := kF0.cell 0; have t1 := kF0.cell 1; have t2 := kF0.cell 2; simp only [List.getElem?_cons_zero, List.getElem?_cons_succ] at t0 t1 t2
  have u0 := kL0.cell 0; have u1 := kL0.cell 1; have u2 := kL0.cell 2; simp only [List.getElem?_cons_zero, List.getElem?_cons_succ] at u0 u1 u2
  go_enter Try.func11, Try.ntmps11
  go_upto_region 1 with fail
  try simp only [World.size_alloc, hq, hq1, hq2]
  rw [HW.out]
  go_upto_region 3 with (go_at_call 15; refine (awake_c _).mono ?_; rintro e_ w1 ⟨rfl, hb1⟩)
  have hb0_1 : Below w0.heap.size w0 w1 := hb1
  have kS1 := kS0.bel hb0_1
  have kF1 := kF0.bel hb0_1
  have kL1 := kL0.bel hb0_1
  have hr1 := hr0.bel hb0_1
  have hB1 : Below q w w1 := hB0.trans (hb0_1.mono z0)
  have z1 : q ≤ w1.heap.size := by have := hb0_1.size; omega
  have ykS_1 := kS1.lt
  have ykF_1 := kF1.lt
  have ykL_1 := kL1.lt
  clear s0 s1 t0 t1 t2 u0 u1 u2 hB0 z0 hb0_1 kS0 kF0 kL0 hr0 ykS_0 ykF_0 ykL_0
  have s0 := kS1.cell 0; have s1 := kS1.cell 1; simp only [List.getElem?_cons_zero, List.getElem?_cons_succ] at s0 s1
  have t0 := kF1.cell 0; have t1 := kF1.cell 1; have t2 := kF1.cell 2; simp only [List.getElem?_cons_zero, List.getElem?_cons_succ] at t0 t1 t2
  have u0 := kL1.cell 0; have u1 := kL1.cell 1; have u2 := kL1.cell 2; simp only [List.getElem?_cons_zero, List.getElem?_cons_succ] at u0 u1 u2
  go_upto_region 5 with (go_at_call 16; refine (HFW.out _).mono ?_; rintro e_ w2 ⟨rfl, hb2⟩)
  have hb1_2 : Below w1.heap.size w1 w2 := hb2
  have kS2 := kS1.bel hb1_2
  have kF2 := kF1.bel hb1_2
  have kL2 := kL1.bel hb1_2
  have hr2 := hr1.bel hb1_2
  have hB2 : Below q w w2 := hB1.trans (hb1_2.mono z1)
  have z2 : q ≤ w2.heap.size := by have := hb1_2.size; omega
  have ykS_2 := kS2.lt
  have ykF_2 := kF2.lt
  have ykL_2 := kL2.lt
  clear s0 s1 t0 t1 t2 u0 u1 u2 hB1 z1 hb1_2 kS1 kF1 kL1 hr1 ykS_1 ykF_1 ykL_1
  have s0 := kS2.cell 0; have s1 := kS2.cell 1; simp only [List.getElem?_cons_zero, List.getElem?_cons_succ] at s0 s1
  have t0 := kF2.cell 0; have t1 := kF2.cell 1; have t2 := kF2.cell 2; simp only [List.getElem?_cons_zero, List.getElem?_cons_succ] at t0 t1 t2
  have u0 := kL2.cell 0; have u1 := kL2.cell 1; have u2 := kL2.cell 2; simp only [List.getElem?_cons_zero, List.getElem?_cons_succ] at u0 u1 u2
  have hSd : (∀ b o, b < w2.heap.size → w2.drew.cell? ⟨b, o, none⟩ = w2.cell? ⟨b, o, none⟩) ∧ Below w2.heap.size w2 w2.drew := kp (Below.refl _ _).drew
  refine wp_region_held (S := fun w' => (∀ b o, b < w2.heap.size → w'.cell? ⟨b, o, none⟩ = w2.cell? ⟨b, o, none⟩) ∧ Below w2.heap.size w2 w') (by kernel_rfl) ?_
  change wpAnyH _ _ _ _ _ _ _ _ w2.drew
  refine wpAnyH_take (i := 0) (v := ?_) rfl (by kernel_rfl) (by kernel_rfl) (by kernel_rfl) (fun _ _ _ h => h) (Or.inl ⟨by kernel_rfl, ?_⟩) (by assumption) ?_
  rotate_left 1
  · (intro w hSw; obtain ⟨hk1, hk2⟩ := hSw; go_simp <;> with_reducible rfl)
  simp only [Act.put, List.getElem_toArray, List.getElem_cons_zero, List.setIfInBounds_toArray, List.set_cons_zero, List.set_cons_succ]
  refine wpAnyH_take (i := 2) (v := ?_) rfl (by kernel_rfl) (by kernel_rfl) (by kernel_rfl) (fun _ _ _ h => h) (Or.inl ⟨by kernel_rfl, ?_⟩) (by assumption) ?_
  rotate_left 1
  · (intro w hSw; obtain ⟨hk1, hk2⟩ := hSw; go_simp <;> with_reducible rfl)
  simp only [Act.put, List.getElem_toArray, List.getElem_cons_zero, List.getElem_cons_succ, List.setIfInBounds_toArray, List.set_cons_zero, List.set_cons_succ]
  refine wpAnyH_take (i := 3) (v := ?_) rfl (by kernel_rfl) (by kernel_rfl) (by kernel_rfl) (fun _ _ _ h => h) (Or.inl ⟨by kernel_rfl, ?_⟩) (by assumption) ?_
  rotate_left 1
  · (intro w hSw; obtain ⟨hk1, hk2⟩ := hSw; go_simp <;> with_reducible rfl)
  simp only [Act.put, List.getElem_toArray, List.getElem_cons_zero, List.getElem_cons_succ, List.setIfInBounds_toArray, List.set_cons_zero, List.set_cons_succ]
  refine wpAnyH_take (i := 4) (v := ?_) rfl (by kernel_rfl) (by kernel_rfl) (by kernel_rfl) (fun _ _ _ h => h) (Or.inl ⟨by kernel_rfl, ?_⟩) (by assumption) ?_
  rotate_left 1
  · (intro w hSw; obtain ⟨hk1, hk2⟩ := hSw; go_simp <;> with_reducible rfl)
  simp only [Act.put, List.getElem_toArray, List.getElem_cons_zero, List.getElem_cons_succ, List.setIfInBounds_toArray, List.set_cons_zero, List.set_cons_succ]
  refine nextH (i := 1) (by kernel_rfl) rfl (fun K hK => ?_)
  go_simp
  refine (HCP.out _ (hr2.bel hSd.2)).mono ?_
  rintro e_ wp ⟨⟨Ap, cp, rfl, rap, rcp⟩, hbp⟩
  have hS' := kp (bel_tr hSd.2 hSd.2.size hbp)
  try dsimp only
  refine hK _ _ hS' ?_
  clear hK K hSd
  have hSd := hS'
  clear hS'
  refine nextH (i := 5) (by kernel_rfl) rfl (fun K hK => ?_)
  go_simp
  refine (HIS.out _ _ _ rap).mono ?_
  rintro e_ w3 ⟨⟨A3, c3, rfl, rx3⟩, hb3⟩
  have hS' := kp (bel_tr hSd.2 hSd.2.size hb3)
  try dsimp only
  refine hK _ _ hS' ?_
  clear hK K hSd
  have hSd := hS'
  clear hS'
  refine wpAnyH_take (i := 6) (v := ?_) rfl (by kernel_rfl) (by kernel_rfl) (by kernel_rfl) (fun _ _ _ h => h) (Or.inl ⟨by kernel_rfl, ?_⟩) (by assumption) ?_
  rotate_left 1
  · (intro w hSw; obtain ⟨hk1, hk2⟩ := hSw; go_simp <;> with_reducible rfl)
  simp only [Act.put, List.getElem_toArray, List.getElem_cons_zero, List.getElem_cons_succ, List.setIfInBounds_toArray, List.set_cons_zero, List.set_cons_succ]
  refine wpAnyH_take (i := 7) (v := ?_) rfl (by kernel_rfl) (by kernel_rfl) (by kernel_rfl) (fun _ _ _ h => h) (Or.inl ⟨by kernel_rfl, ?_⟩) (by assumption) ?_
  rotate_left 1
  · (intro w hSw; obtain ⟨hk1, hk2⟩ := hSw; go_simp <;> with_reducible rfl)
  simp only [Act.put, List.getElem_toArray, List.getElem_cons_zero, List.getElem_cons_succ, List.setIfInBounds_toArray, List.set_cons_zero, List.set_cons_succ]
  refine wpAnyH_take (i := 8) (v := ?_) rfl (by kernel_rfl) (by kernel_rfl) (by kernel_rfl) (fun _ _ _ h => h) (Or.inl ⟨by kernel_rfl, ?_⟩) (by assumption) ?_
  rotate_left 1
  · (intro w hSw; obtain ⟨hk1, hk2⟩ := hSw; go_simp <;> with_reducible rfl)
  simp only [Act.put, List.getElem_toArray, List.getElem_cons_zero, List.getElem_cons_succ, List.setIfInBounds_toArray, List.set_cons_zero, List.set_cons_succ]
  refine wpAnyH_take (i := 9) (v := ?_) rfl (by kernel_rfl) (by kernel_rfl) (by kernel_rfl) (fun _ _ _ h => h) (Or.inl ⟨by kernel_rfl, ?_⟩) (by assumption) ?_
  rotate_left 1
  · (intro w hSw; obtain ⟨hk1, hk2⟩ := hSw; go_simp <;> with_reducible rfl)
  simp only [Act.put, List.getElem_toArray, List.getElem_cons_zero, List.getElem_cons_succ, List.setIfInBounds_toArray, List.set_cons_zero, List.set_cons_succ]
  refine wpAnyH_take (i := 10) (v := ?_) rfl (by kernel_rfl) (by kernel_rfl) (by kernel_rfl) (fun _ _ _ h => h) (Or.inl ⟨by kernel_rfl, ?_⟩) (by assumption) ?_
  rotate_left 1
  · (intro w hSw; obtain ⟨hk1, hk2⟩ := hSw; go_simp <;> with_reducible rfl)
  simp only [Act.put, List.getElem_toArray, List.getElem_cons_zero, List.getElem_cons_succ, List.setIfInBounds_toArray, List.set_cons_zero, List.set_cons_succ]
  refine wpAnyH_done (by kernel_rfl) ?_ _
  have hb2_3 : Below w2.heap.size w2 w3 := hSd.2
  have kS3 := kS2.bel hb2_3
  have kF3 := kF2.bel hb2_3
  have kL3 := kL2.bel hb2_3
  have hr3 := hr2.bel hb2_3
  have hB3 : Below q w w3 := hB2.trans (hb2_3.mono z2)
  have z3 : q ≤ w3.heap.size := by have := hb2_3.size; omega
  have ykS_3 := kS3.lt
  have ykF_3 := kF3.lt
  have ykL_3 := kL3.lt
  clear s0 s1 t0 t1 t2 u0 u1 u2 hB2 z2 hb2_3 kS2 kF2 kL2 hr2 ykS_2 ykF_2 ykL_2
  have s0 := kS3.cell 0; have s1 := kS3.cell 1; simp only [List.getElem?_cons_zero, List.getElem?_cons_succ] at s0 s1
  have t0 := kF3.cell 0; have t1 := kF3.cell 1; have t2 := kF3.cell 2; simp only [List.getElem?_cons_zero, List.getElem?_cons_succ] at t0 t1 t2
  have u0 := kL3.cell 0; have u1 := kL3.cell 1; have u2 := kL3.cell 2; simp only [List.getElem?_cons_zero, List.getElem?_cons_succ] at u0 u1 u2
  clear hSd hbp hb3 rap rcp
  go_upto_region 6 with fail
  have hSd : (∀ b o, b < w3.heap.size → w3.drew.cell? ⟨b, o, none⟩ = w3.cell? ⟨b, o, none⟩) ∧ Below w3.heap.size w3 w3.drew := kp (Below.refl _ _).drew
  refine wp_region_held (S := fun w' => (∀ b o, b < w3.heap.size → w'.cell? ⟨b, o, none⟩ = w3.cell? ⟨b, o, none⟩) ∧ Below w3.heap.size w3 w') (by kernel_rfl) ?_
  change wpAnyH _ _ _ _ _ _ _ _ w3.drew
  refine wpAnyH_take (i := 0) (v := ?_) rfl (by kernel_rfl) (by kernel_rfl) (by kernel_rfl) (fun _ _ _ h => h) (Or.inl ⟨by kernel_rfl, ?_⟩) (by assumption) ?_
  rotate_left 1
  · (intro w hSw; obtain ⟨hk1, hk2⟩ := hSw; go_simp <;> with_reducible rfl)
  simp only [Act.put, List.getElem_toArray, List.getElem_cons_zero, List.setIfInBounds_toArray, List.set_cons_zero, List.set_cons_succ]
  refine wpAnyH_take (i := 2) (v := ?_) rfl (by kernel_rfl) (by kernel_rfl) (by kernel_rfl) (fun _ _ _ h => h) (Or.inl ⟨by kernel_rfl, ?_⟩) (by assumption) ?_
  rotate_left 1
  · (intro w hSw; obtain ⟨hk1, hk2⟩ := hSw; go_simp <;> with_reducible rfl)
  simp only [Act.put, List.getElem_toArray, List.getElem_cons_zero, List.getElem_cons_succ, List.setIfInBounds_toArray, List.set_cons_zero, List.set_cons_succ]
  refine wpAnyH_take (i := 3) (v := ?_) rfl (by kernel_rfl) (by kernel_rfl) (by kernel_rfl) (fun _ _ _ h => h) (Or.inl ⟨by kernel_rfl, ?_⟩) (by assumption) ?_
  rotate_left 1
  · (intro w hSw; obtain ⟨hk1, hk2⟩ := hSw; go_simp <;> with_reducible rfl)
  simp only [Act.put, List.getElem_toArray, List.getElem_cons_zero, List.getElem_cons_succ, List.setIfInBounds_toArray, List.set_cons_zero, List.set_cons_succ]
  refine nextH (i := 1) (by kernel_rfl) rfl (fun K hK => ?_)
  go_simp
  refine (HCP.out _ (hr3.bel hSd.2)).mono ?_
  rintro e_ wp ⟨⟨Ap, cp, rfl, rap, rcp⟩, hbp⟩
  have hS' := kp (bel_tr hSd.2 hSd.2.size hbp)
  try dsimp only
  refine hK _ _ hS' ?_
  clear hK K hSd
  have hSd := hS'
  clear hS'
  refine nextH (i := 4) (by kernel_rfl) rfl (fun K hK => ?_)
  go_simp
  refine (HRW.out _ _ _ rap).mono ?_
  rintro e_ w4 ⟨rfl, hb4⟩
  have hS' := kp (bel_tr hSd.2 hSd.2.size hb4)
  try dsimp only
  refine hK _ _ hS' ?_
  clear hK K hSd
  have hSd := hS'
  clear hS'
  refine wpAnyH_take (i := 5) (v := ?_) rfl (by kernel_rfl) (by kernel_rfl) (by kernel_rfl) (fun _ _ _ h => h) (Or.inl ⟨by kernel_rfl, ?_⟩) (by assumption) ?_
  rotate_left 1
  · (intro w hSw; obtain ⟨hk1, hk2⟩ := hSw; go_simp <;> with_reducible rfl)
  simp only [Act.put, List.getElem_toArray, List.getElem_cons_zero, List.getElem_cons_succ, List.setIfInBounds_toArray, List.set_cons_zero, List.set_cons_succ]
  refine wpAnyH_take (i := 6) (v := ?_) rfl (by kernel_rfl) (by kernel_rfl) (by kernel_rfl) (fun _ _ _ h => h) (Or.inl ⟨by kernel_rfl, ?_⟩) (by assumption) ?_
  rotate_left 1
  · (intro w hSw; obtain ⟨hk1, hk2⟩ := hSw; go_simp <;> with_reducible rfl)
  simp only [Act.put, List.getElem_toArray, List.getElem_cons_zero, List.getElem_cons_succ, List.setIfInBounds_toArray, List.set_cons_zero, List.set_cons_succ]
  refine wpAnyH_take (i := 7) (v := ?_) rfl (by kernel_rfl) (by kernel_rfl) (by kernel_rfl) (fun _ _ _ h => h) (Or.inl ⟨by kernel_rfl, ?_⟩) (by assumption) ?_
  rotate_left 1
  · (intro w hSw; obtain ⟨hk1, hk2⟩ := hSw; go_simp <;> with_reducible rfl)
  simp only [Act.put, List.getElem_toArray, List.getElem_cons_zero, List.getElem_cons_succ, List.setIfInBounds_toArray, List.set_cons_zero, List.set_cons_succ]
  refine wpAnyH_take (i := 8) (v := ?_) rfl (by kernel_rfl) (by kernel_rfl) (by kernel_rfl) (fun _ _ _ h => h) (Or.inl ⟨by kernel_rfl, ?_⟩) (by assumption) ?_
  rotate_left 1
  · (intro w hSw; obtain ⟨hk1, hk2⟩ := hSw; go_simp <;> with_reducible rfl)
  simp only [Act.put, List.getElem_toArray, List.getElem_cons_zero, List.getElem_cons_succ, List.setIfInBounds_toArray, List.set_cons_zero, List.set_cons_succ]
  refine wpAnyH_take (i := 9) (v := ?_) rfl (by kernel_rfl) (by kernel_rfl) (by kernel_rfl) (fun _ _ _ h => h) (Or.inl ⟨by kernel_rfl, ?_⟩) (by assumption) ?_
  rotate_left 1
  · (intro w hSw; obtain ⟨hk1, hk2⟩ := hSw; go_simp <;> with_reducible rfl)
  simp only [Act.put, List.getElem_toArray, List.getElem_cons_zero, List.getElem_cons_succ, List.setIfInBounds_toArray, List.set_cons_zero, List.set_cons_succ]
  refine wpAnyH_done (by kernel_rfl) ?_ _
  have hb3_4 : Below w3.heap.size w3 w4 := hSd.2
  have kS4 := kS3.bel hb3_4
  have kF4 := kF3.bel hb3_4
  have kL4 := kL3.bel hb3_4
  have hr4 := hr3.bel hb3_4
  have rx4 := rx3.bel hb3_4
  have hB4 : Below q w w4 := hB3.trans (hb3_4.mono z3)
  have z4 : q ≤ w4.heap.size := by have := hb3_4.size; omega
  have ykS_4 := kS4.lt
  have ykF_4 := kF4.lt
  have ykL_4 := kL4.lt
  clear s0 s1 t0 t1 t2 u0 u1 u2 hB3 z3 hb3_4 kS3 kF3 kL3 hr3 rx3 ykS_3 ykF_3 ykL_3
  have s0 := kS4.cell 0; have s1 := kS4.cell 1; simp only [List.getElem?_cons_zero, List.getElem?_cons_succ] at s0 s1
  have t0 := kF4.cell 0; have t1 := kF4.cell 1; have t2 := kF4.cell 2; simp only [List.getElem?_cons_zero, List.getElem?_cons_succ] at t0 t1 t2
  have u0 := kL4.cell 0; have u1 := kL4.cell 1; have u2 := kL4.cell 2; simp only [List.getElem?_cons_zero, List.getElem?_cons_succ] at u0 u1 u2
  clear hSd hbp hb4 rap rcp
  go_upto_region 8 with (go_at_call 71; refine (HXE.out _).mono ?_; rintro e_ w5 ⟨rfl, hb5⟩)
  have hb4_5 : Below w4.heap.size w4 w5 := hb5
  have kS5 := kS4.bel hb4_5
  have kF5 := kF4.bel hb4_5
  have kL5 := kL4.bel hb4_5
  have hr5 := hr4.bel hb4_5
  have rx5 := rx4.bel hb4_5
  have hB5 : Below q w w5 := hB4.trans (hb4_5.mono z4)
  have z5 : q ≤ w5.heap.size := by have := hb4_5.size; omega
  have ykS_5 := kS5.lt
  have ykF_5 := kF5.lt
  have ykL_5 := kL5.lt
  clear s0 s1 t0 t1 t2 u0 u1 u2 hB4 z4 hb4_5 kS4 kF4 kL4 hr4 rx4 ykS_4 ykF_4 ykL_4
  have s0 := kS5.cell 0; have s1 := kS5.cell 1; simp only [List.getElem?_cons_zero, List.getElem?_cons_succ] at s0 s1
  have t0 := kF5.cell 0; have t1 := kF5.cell 1; have t2 := kF5.cell 2; simp only [List.getElem?_cons_zero, List.getElem?_cons_succ] at t0 t1 t2
  have u0 := kL5.cell 0; have u1 := kL5.cell 1; have u2 := kL5.cell 2; simp only [List.getElem?_cons_zero, List.getElem?_cons_succ] at u0 u1 u2
  clear hb5
  go_upto_region 10 with (go_at_call 72; refine (HXC.out _).mono ?_; rintro e_ w6 ⟨rfl, hb6⟩)
  have hb5_6 : Below w5.heap.size w5 w6 := hb6
  have kS6 := kS5.bel hb5_6
  have kF6 := kF5.bel hb5_6
  have kL6 := kL5.bel hb5_6
  have hr6 := hr5.bel hb5_6
  have rx6 := rx5.bel hb5_6
  have hB6 : Below q w w6 := hB5.trans (hb5_6.mono z5)
  have z6 : q ≤ w6.heap.size := by have := hb5_6.size; omega
  have ykS_6 := kS6.lt
  have ykF_6 := kF6.lt
  have ykL_6 := kL6.lt
  clear s0 s1 t0 t1 t2 u0 u1 u2 hB5 z5 hb5_6 kS5 kF5 kL5 hr5 rx5 ykS_5 ykF_5 ykL_5
  have s0 := kS6.cell 0; have s1 := kS6.cell 1; simp only [List.getElem?_cons_zero, List.getElem?_cons_succ] at s0 s1
  have t0 := kF6.cell 0; have t1 := kF6.cell 1; have t2 := kF6.cell 2; simp only [List.getElem?_cons_zero, List.getElem?_cons_succ] at t0 t1 t2
  have u0 := kL6.cell 0; have u1 := kL6.cell 1; have u2 := kL6.cell 2; simp only [List.getElem?_cons_zero, List.getElem?_cons_succ] at u0 u1 u2
  clear hb6
  go_upto_region 11 with (go_at_call 53; refine (HSE.out _ hr6).mono ?_; rintro e_ w7 ⟨rfl, hb7⟩)
  have hb6_7 : Below w6.heap.size w6 w7 := hb7
  have kS7 := kS6.bel hb6_7
  have kF7 := kF6.bel hb6_7
  have kL7 := kL6.bel hb6_7
  have hr7 := hr6.bel hb6_7
  have rx7 := rx6.bel hb6_7
  have hB7 : Below q w w7 := hB6.trans (hb6_7.mono z6)
  have z7 : q ≤ w7.heap.size := by have := hb6_7.size; omega
  have ykS_7 := kS7.lt
  have ykF_7 := kF7.lt
  have ykL_7 := kL7.lt
  clear s0 s1 t0 t1 t2 u0 u1 u2 hB6 z6 hb6_7 kS6 kF6 kL6 hr6 rx6 ykS_6 ykF_6 ykL_6
  have s0 := kS7.cell 0; have s1 := kS7.cell 1; simp only [List.getElem?_cons_zero, List.getElem?_cons_succ] at s0 s1
  have t0 := kF7.cell 0; have t1 := kF7.cell 1; have t2 := kF7.cell 2; simp only [List.getElem?_cons_zero, List.getElem?_cons_succ] at t0 t1 t2
  have u0 := kL7.cell 0; have u1 := kL7.cell 1; have u2 := kL7.cell 2; simp only [List.getElem?_cons_zero, List.getElem?_cons_succ] at u0 u1 u2
  clear hb7
  go_upto_region 13 with (go_at_call 24; refine (HFE.out _).mono ?_; rintro e_ w_ ⟨rfl, rfl⟩)
  go_upto_region 17 with (go_at_call 73; refine (HSL.out _).mono ?_; rintro e_ w8 ⟨rfl, hb8⟩)
  have hb7_8 : Below w7.heap.size w7 w8 := hb8
  have kS8 := kS7.bel hb7_8
  have kF8 := kF7.bel hb7_8
  have kL8 := kL7.bel hb7_8
  have hr8 := hr7.bel hb7_8
  have rx8 := rx7.bel hb7_8
  have hB8 : Below q w w8 := hB7.trans (hb7_8.mono z7)
  have z8 : q ≤ w8.heap.size := by have := hb7_8.size; omega
  have ykS_8 := kS8.lt
  have ykF_8 := kF8.lt
  have ykL_8 := kL8.lt
  clear s0 s1 t0 t1 t2 u0 u1 u2 hB7 z7 hb7_8 kS7 kF7 kL7 hr7 rx7 ykS_7 ykF_7 ykL_7
  have s0 := kS8.cell 0; have s1 := kS8.cell 1; simp only [List.getElem?_cons_zero, List.getElem?_cons_succ] at s0 s1
  have t0 := kF8.cell 0; have t1 := kF8.cell 1; have t2 := kF8.cell 2; simp only [List.getElem?_cons_zero, List.getElem?_cons_succ] at t0 t1 t2
  have u0 := kL8.cell 0; have u1 := kL8.cell 1; have u2 := kL8.cell 2; simp only [List.getElem?_cons_zero, List.getElem?_cons_succ] at u0 u1 u2
  clear hb8
  go_upto_region 19 with fail
  go_upto_region 20 with (go_at_call 53; refine (HSE.out _ hr8).mono ?_; rintro e_ w11 ⟨rfl, hb11⟩)
  have hb8_11 : Below w8.heap.size w8 w11 := hb11
  have kS11 := kS8.bel hb8_11
  have kF11 := kF8.bel hb8_11
  have kL11 := kL8.bel hb8_11
  have hr11 := hr8.bel hb8_11
  have rx11 := rx8.bel hb8_11
  have hB11 : Below q w w11 := hB8.trans (hb8_11.mono z8)
  have z11 : q ≤ w11.heap.size := by have := hb8_11.size; omega
  have ykS_11 := kS11.lt
  have ykF_11 := kF11.lt
  have ykL_11 := kL11.lt
  clear s0 s1 t0 t1 t2 u0 u1 u2 hB8 z8 hb8_11 kS8 kF8 kL8 hr8 rx8 ykS_8 ykF_8 ykL_8
  have s0 := kS11.cell 0; have s1 := kS11.cell 1; simp only [List.getElem?_cons_zero, List.getElem?_cons_succ] at s0 s1
  have t0 := kF11.cell 0; have t1 := kF11.cell 1; have t2 := kF11.cell 2; simp only [List.getElem?_cons_zero, List.getElem?_cons_succ] at t0 t1 t2
  have u0 := kL11.cell 0; have u1 := kL11.cell 1; have u2 := kL11.cell 2; simp only [List.getElem?_cons_zero, List.getElem?_cons_succ] at u0 u1 u2
  clear hb11
  go_upto_region 24 with (go_at_call 76; refine (HSH.out _).mono ?_; rintro e_ w12 ⟨rfl, hb12⟩)
  have hb11_12 : Below w11.heap.size w11 w12 := hb12
  have kS12 := kS11.bel hb11_12
  have kF12 := kF11.bel hb11_12
  have kL12 := kL11.bel hb11_12
  have hr12 := hr11.bel hb11_12
  have rx12 := rx11.bel hb11_12
  have hB12 : Below q w w12 := hB11.trans (hb11_12.mono z11)
  have z12 : q ≤ w12.heap.size := by have := hb11_12.size; omega
  have ykS_12 := kS12.lt
  have ykF_12 := kF12.lt
  have ykL_12 := kL12.lt
  clear s0 s1 t0 t1 t2 u0 u1 u2 hB11 z11 hb11_12 kS11 kF11 kL11 hr11 rx11 ykS_11 ykF_11 ykL_11
  have s0 := kS12.cell 0; have s1 := kS12.cell 1; simp only [List.getElem?_cons_zero, List.getElem?_cons_succ] at s0 s1
  have t0 := kF12.cell 0; have t1 := kF12.cell 1; have t2 := kF12.cell 2; simp only [List.getElem?_cons_zero, List.getElem?_cons_succ] at t0 t1 t2
  have u0 := kL12.cell 0; have u1 := kL12.cell 1; have u2 := kL12.cell 2; simp only [List.getElem?_cons_zero, List.getElem?_cons_succ] at u0 u1 u2
  clear hb12
  go_upto_region 26 with (go_at_call 73; refine (HSL.out _).mono ?_; rintro e_ w13 ⟨rfl, hb13⟩)
  have hb12_13 : Below w12.heap.size w12 w13 := hb13
  have kS13 := kS12.bel hb12_13
  have kF13 := kF12.bel hb12_13
  have kL13 := kL12.bel hb12_13
  have hr13 := hr12.bel hb12_13
  have rx13 := rx12.bel hb12_13
  have hB13 : Below q w w13 := hB12.trans (hb12_13.mono z12)
  have z13 : q ≤ w13.heap.size := by have := hb12_13.size; omega
  have ykS_13 := kS13.lt
  have ykF_13 := kF13.lt
  have ykL_13 := kL13.lt
  clear s0 s1 t0 t1 t2 u0 u1 u2 hB12 z12 hb12_13 kS12 kF12 kL12 hr12 rx12 ykS_12 ykF_12 ykL_12
  have s0 := kS13.cell 0; have s1 := kS13.cell 1; simp only [List.getElem?_cons_zero, List.getElem?_cons_succ] at s0 s1
  have t0 := kF13.cell 0; have t1 := kF13.cell 1; have t2 := kF13.cell 2; simp only [List.getElem?_cons_zero, List.getElem?_cons_succ] at t0 t1 t2
  have u0 := kL13.cell 0; have u1 := kL13.cell 1; have u2 := kL13.cell 2; simp only [List.getElem?_cons_zero, List.getElem?_cons_succ] at u0 u1 u2
  clear hb13
  go_wp2
  go_ret
  exact ⟨rfl, by first | exact hB13 | (rw [hq]; exact hB13)⟩
set_option maxHeartbeats 16000000 in
theorem fieldsLaw_00000 (H gy lo hi f n d : Int) (A : Option Addr) (c : Nat) (l : List G) (w : World) (hr : Rd w A (gs l)) (hl : l.length ≤ 14) (g1 : -9223372036854775808 ≤ n ∧ n ≤ 9223372036854775807) (g2 : d ≤ 9223372036854775807) (hs : (skyE H l).2 = 0) (hfr : freqE f = 0) (hfd : fieldE gy lo hi = 0) (hla : launchE n d = 0) (hsl : gyroE f gy = 0) :
    Calls Try.prog 11 #[.agg #[.int .i64 H, .slice A l.length c], .agg #[.int .i64 gy, .int .i64 lo, .int .i64 hi], .agg #[.int .i64 f, .int .i64 n, .int .i64 d]] w fun r w' => r = .returned (.bool true) ∧ Below w.heap.size w w' := by
  have HCP := hide (fun W (h : Rd W A (gs l)) => copySky_c H A c l W h (by omega))
  have HFW := hide (fun W => few_c H A c l W)
  rw [decide_eq_true (show (l.length : Int) ≤ 14 by omega)] at HFW
  have HSE := hide (fun W (h : Rd W A (gs l)) => refSkyErr_c H A c l W h (by omega))
  have HFE := hide (fun W => frequencyErr_c f W)
  have HXE := hide (fun W => refFieldErr_c gy lo hi W)
  have HXC := hide (fun W => checkField_c gy lo hi W)
  have HSH := hide (fun W => refShotErr_c f n d W g1.1 g1.2 g2)
  have HSL := hide (fun W => refSlowErr_c f gy lo hi W)
  have HIS := hide (fun A' c' W (h : Rd W A' (gs l)) => indexSpans_c H f gy lo hi A' c' l W h (by omega))
  have HRW := hide (fun A' c' W (h : Rd W A' (gs l)) => reflectsWith_c H gy lo hi f n d A' c' l W h (by omega) g1.1 g1.2 g2)
  have hshot : shotE f n d = launchE n d := by unfold shotE; rw [hfr]; exact firstE_01c _
  have hx1 : spaE H f gy lo hi l = 0 := by unfold spaE; rw [hs, hfr, hfd, hsl]; rfl
  rw [show spaN H f gy lo hi l = l.length by unfold spaN; rw [if_pos hx1], show spaL H f gy lo hi l = spnL f gy lo hi l by unfold spaL; rw [if_pos hx1], hx1] at HIS
  clear hx1
  have hx2 : refE H gy lo hi f n d l = 0 := by unfold refE; rw [hs, hfd, hshot, hla, hsl]; rfl
  rw [show refQ H gy lo hi f n d l = (ansB (l.any (hitW f n d gy lo)) (l.any (hitW f n d gy hi)), 0) by unfold refQ; rw [if_neg (by rw [hx2]; simp)]] at HRW
  clear hx2
  obtain ⟨H0, H1, l0, l1, hok⟩ := skyE_zero hs
  have hoF := okF hfr hfd hsl
  have HSP := hide (fun W (h : Rd W A (gs l)) => refSpans_c H f gy lo hi A c l W h l1 hok hoF)
  have HSS := hide (fun A1 c1 A2 c2 W (h1 : Rd W A1 (gs (spnL f gy lo hi l))) (h2 : Rd W A2 (gs (spnL f gy lo hi l))) => sameSpans_c (spnL f gy lo hi l) l.length (spnL_len f gy lo hi l) (by omega) A1 A2 c1 c2 W h1 h2)
  have hlz := launchE_zero hla
  have HRF := hide (fun W (h : Rd W A (gs l)) => refReflected_c H f gy lo hi n d A c l W h l1 hok hoF (by omega) (by omega) (by omega) (by omega))
  generalize ansB (l.any (hitW f n d gy lo)) (l.any (hitW f n d gy hi)) = an at HRW HRF
  clear hlz
  clear hok hoF H0 H1 l0 l1
  dsimp only at HRW
  rw [hshot] at HSH
  clear hshot
  try rw [hs] at HSE
  try rw [hs] at HFE
  try rw [hs] at HXE
  try rw [hs] at HXC
  try rw [hs] at HSH
  try rw [hs] at HSL
  try rw [hs] at HIS
  try rw [hs] at HRW
  clear hs
  try rw [hfr] at HSE
  try rw [hfr] at HFE
  try rw [hfr] at HXE
  try rw [hfr] at HXC
  try rw [hfr] at HSH
  try rw [hfr] at HSL
  try rw [hfr] at HIS
  try rw [hfr] at HRW
  clear hfr
  try rw [hfd] at HSE
  try rw [hfd] at HFE
  try rw [hfd] at HXE
  try rw [hfd] at HXC
  try rw [hfd] at HSH
  try rw [hfd] at HSL
  try rw [hfd] at HIS
  try rw [hfd] at HRW
  clear hfd
  try rw [hla] at HSE
  try rw [hla] at HFE
  try rw [hla] at HXE
  try rw [hla] at HXC
  try rw [hla] at HSH
  try rw [hla] at HSL
  try rw [hla] at HIS
  try rw [hla] at HRW
  clear hla
  try rw [hsl] at HSE
  try rw [hsl] at HFE
  try rw [hsl] at HXE
  try rw [hsl] at HXC
  try rw [hsl] at HSH
  try rw [hsl] at HSL
  try rw [hsl] at HIS
  try rw [hsl] at HRW
  clear hsl
  obtain ⟨q, hq⟩ : ∃ q, w.heap.size = q := ⟨_, rfl⟩
  obtain ⟨q1, hq1⟩ : ∃ q1, q + 1 = q1 := ⟨_, rfl⟩
  obtain ⟨q2, hq2⟩ : ∃ q2, q1 + 1 = q2 := ⟨_, rfl⟩
  obtain ⟨Wa, hWa⟩ : ∃ Wa, w.alloc (.cells #[.int .i64 H, .slice A l.length c] 24) = Wa := ⟨_, rfl⟩
  have ba : Below w.heap.size w Wa := by rw [← hWa]; exact alloc_bel _ _
  have sa : Wa.heap.size = q1 := by rw [← hWa, ← hq1, ← hq]; simp
  have ka : Blk Wa q 24 [.int .i64 H, .slice A l.length c] := by rw [← hWa, ← hq]; exact Blk.new w _ [_, _]
  obtain ⟨Wb, hWb⟩ : ∃ Wb, Wa.alloc (.cells #[.int .i64 gy, .int .i64 lo, .int .i64 hi] 121) = Wb := ⟨_, rfl⟩
  have bb : Below Wa.heap.size Wa Wb := by rw [← hWb]; exact alloc_bel _ _
  have sb : Wb.heap.size = q2 := by rw [← hWb, ← hq2, ← sa]; simp
  have kb : Blk Wb q1 121 [.int .i64 gy, .int .i64 lo, .int .i64 hi] := by rw [← hWb, ← sa]; exact Blk.new Wa _ [_, _, _]
  obtain ⟨w0, hWc⟩ : ∃ w0, Wb.alloc (.cells #[.int .i64 f, .int .i64 n, .int .i64 d] 123) = w0 := ⟨_, rfl⟩
  have bc : Below Wb.heap.size Wb w0 := by rw [← hWc]; exact alloc_bel _ _
  have kL0 : Blk w0 q2 123 [.int .i64 f, .int .i64 n, .int .i64 d] := by rw [← hWc, ← sb]; exact Blk.new Wb _ [_, _, _]
  have hABC : ((w.alloc (.cells #[.int .i64 H, .slice A l.length c] 24)).alloc (.cells #[.int .i64 gy, .int .i64 lo, .int .i64 hi] 121)).alloc (.cells #[.int .i64 f, .int .i64 n, .int .i64 d] 123) = w0 := by rw [hWa, hWb, hWc]
  have HW := hide hABC
  have kS0 := (ka.bel bb).bel bc
  have kF0 := kb.bel bc
  have hr0 := ((hr.bel ba).bel bb).bel bc
  have hB0 : Below q w w0 := by
    rw [hq] at ba
    exact (ba.trans (bb.mono (by omega))).trans (bc.mono (by omega))
  have z0 : q ≤ w0.heap.size := by have := kS0.lt; omega
  clear hABC hWa hWb hWc ba bb bc ka kb sa sb
  have ykS_0 := kS0.lt
  have ykF_0 := kF0.lt
  have ykL_0 := kL0.lt
  have s0 := kS0.cell 0; have s1 := kS0.cell 1; simp only [List.getElem?_cons_zero, List.getElem?_cons_succ] at s0 s1
  have t0 := kF0.cell 0; have t1 := kF0.cell 1; have t2 := kF0.cell 2; simp only [List.getElem?_cons_zero, List.getElem?_cons_succ] at t0 t1 t2
  have u0 := kL0.cell 0; have u1 := kL0.cell 1; have u2 := kL0.cell 2; simp only [List.getElem?_cons_zero, List.getElem?_cons_succ] at u0 u1 u2
  go_enter Try.func11, Try.ntmps11
  go_upto_region 1 with fail
  try simp only [World.size_alloc, hq, hq1, hq2]
  rw [HW.out]
  go_upto_region 3 with (go_at_call 15; refine (awake_c _).mono ?_; rintro e_ w1 ⟨rfl, hb1⟩)
  have hb0_1 : Below w0.heap.size w0 w1 := hb1
  have kS1 := kS0.bel hb0_1
  have kF1 := kF0.bel hb0_1
  have kL1 := kL0.bel hb0_1
  have hr1 := hr0.bel hb0_1
  have hB1 : Below q w w1 := hB0.trans (hb0_1.mono z0)
  have z1 : q ≤ w1.heap.size := by have := hb0_1.size; omega
  have ykS_1 := kS1.lt
  have ykF_1 := kF1.lt
  have ykL_1 := kL1.lt
  clear s0 s1 t0 t1 t2 u0 u1 u2 hB0 z0 hb0_1 kS0 kF0 kL0 hr0 ykS_0 ykF_0 ykL_0
  have s0 := kS1.cell 0; have s1 := kS1.cell 1; simp only [List.getElem?_cons_zero, List.getElem?_cons_succ] at s0 s1
  have t0 := kF1.cell 0; have t1 := kF1.cell 1; have t2 := kF1.cell 2; simp only [List.getElem?_cons_zero, List.getElem?_cons_succ] at t0 t1 t2
  have u0 := kL1.cell 0; have u1 := kL1.cell 1; have u2 := kL1.cell 2; simp only [List.getElem?_cons_zero, List.getElem?_cons_succ] at u0 u1 u2
  go_upto_region 5 with (go_at_call 16; refine (HFW.out _).mono ?_; rintro e_ w2 ⟨rfl, hb2⟩)
  have hb1_2 : Below w1.heap.size w1 w2 := hb2
  have kS2 := kS1.bel hb1_2
  have kF2 := kF1.bel hb1_2
  have kL2 := kL1.bel hb1_2
  have hr2 := hr1.bel hb1_2
  have hB2 : Below q w w2 := hB1.trans (hb1_2.mono z1)
  have z2 : q ≤ w2.heap.size := by have := hb1_2.size; omega
  have ykS_2 := kS2.lt
  have ykF_2 := kF2.lt
  have ykL_2 := kL2.lt
  clear s0 s1 t0 t1 t2 u0 u1 u2 hB1 z1 hb1_2 kS1 kF1 kL1 hr1 ykS_1 ykF_1 ykL_1
  have s0 := kS2.cell 0; have s1 := kS2.cell 1; simp only [List.getElem?_cons_zero, List.getElem?_cons_succ] at s0 s1
  have t0 := kF2.cell 0; have t1 := kF2.cell 1; have t2 := kF2.cell 2; simp only [List.getElem?_cons_zero, List.getElem?_cons_succ] at t0 t1 t2
  have u0 := kL2.cell 0; have u1 := kL2.cell 1; have u2 := kL2.cell 2; simp only [List.getElem?_cons_zero, List.getElem?_cons_succ] at u0 u1 u2
  have hSd : (∀ b o, b < w2.heap.size → w2.drew.cell? ⟨b, o, none⟩ = w2.cell? ⟨b, o, none⟩) ∧ Below w2.heap.size w2 w2.drew := kp (Below.refl _ _).drew
  refine wp_region_held (S := fun w' => (∀ b o, b < w2.heap.size → w'.cell? ⟨b, o, none⟩ = w2.cell? ⟨b, o, none⟩) ∧ Below w2.heap.size w2 w') (by kernel_rfl) ?_
  change wpAnyH _ _ _ _ _ _ _ _ w2.drew
  refine wpAnyH_take (i := 0) (v := ?_) rfl (by kernel_rfl) (by kernel_rfl) (by kernel_rfl) (fun _ _ _ h => h) (Or.inl ⟨by kernel_rfl, ?_⟩) (by assumption) ?_
  rotate_left 1
  · (intro w hSw; obtain ⟨hk1, hk2⟩ := hSw; go_simp <;> with_reducible rfl)
  simp only [Act.put, List.getElem_toArray, List.getElem_cons_zero, List.setIfInBounds_toArray, List.set_cons_zero, List.set_cons_succ]
  refine wpAnyH_take (i := 2) (v := ?_) rfl (by kernel_rfl) (by kernel_rfl) (by kernel_rfl) (fun _ _ _ h => h) (Or.inl ⟨by kernel_rfl, ?_⟩) (by assumption) ?_
  rotate_left 1
  · (intro w hSw; obtain ⟨hk1, hk2⟩ := hSw; go_simp <;> with_reducible rfl)
  simp only [Act.put, List.getElem_toArray, List.getElem_cons_zero, List.getElem_cons_succ, List.setIfInBounds_toArray, List.set_cons_zero, List.set_cons_succ]
  refine wpAnyH_take (i := 3) (v := ?_) rfl (by kernel_rfl) (by kernel_rfl) (by kernel_rfl) (fun _ _ _ h => h) (Or.inl ⟨by kernel_rfl, ?_⟩) (by assumption) ?_
  rotate_left 1
  · (intro w hSw; obtain ⟨hk1, hk2⟩ := hSw; go_simp <;> with_reducible rfl)
  simp only [Act.put, List.getElem_toArray, List.getElem_cons_zero, List.getElem_cons_succ, List.setIfInBounds_toArray, List.set_cons_zero, List.set_cons_succ]
  refine wpAnyH_take (i := 4) (v := ?_) rfl (by kernel_rfl) (by kernel_rfl) (by kernel_rfl) (fun _ _ _ h => h) (Or.inl ⟨by kernel_rfl, ?_⟩) (by assumption) ?_
  rotate_left 1
  · (intro w hSw; obtain ⟨hk1, hk2⟩ := hSw; go_simp <;> with_reducible rfl)
  simp only [Act.put, List.getElem_toArray, List.getElem_cons_zero, List.getElem_cons_succ, List.setIfInBounds_toArray, List.set_cons_zero, List.set_cons_succ]
  refine nextH (i := 1) (by kernel_rfl) rfl (fun K hK => ?_)
  go_simp
  refine (HCP.out _ (hr2.bel hSd.2)).mono ?_
  rintro e_ wp ⟨⟨Ap, cp, rfl, rap, rcp⟩, hbp⟩
  have hS' := kp (bel_tr hSd.2 hSd.2.size hbp)
  try dsimp only
  refine hK _ _ hS' ?_
  clear hK K hSd
  have hSd := hS'
  clear hS'
  refine nextH (i := 5) (by kernel_rfl) rfl (fun K hK => ?_)
  go_simp
  refine (HIS.out _ _ _ rap).mono ?_
  rintro e_ w3 ⟨⟨A3, c3, rfl, rx3⟩, hb3⟩
  have hS' := kp (bel_tr hSd.2 hSd.2.size hb3)
  try dsimp only
  refine hK _ _ hS' ?_
  clear hK K hSd
  have hSd := hS'
  clear hS'
  refine wpAnyH_take (i := 6) (v := ?_) rfl (by kernel_rfl) (by kernel_rfl) (by kernel_rfl) (fun _ _ _ h => h) (Or.inl ⟨by kernel_rfl, ?_⟩) (by assumption) ?_
  rotate_left 1
  · (intro w hSw; obtain ⟨hk1, hk2⟩ := hSw; go_simp <;> with_reducible rfl)
  simp only [Act.put, List.getElem_toArray, List.getElem_cons_zero, List.getElem_cons_succ, List.setIfInBounds_toArray, List.set_cons_zero, List.set_cons_succ]
  refine wpAnyH_take (i := 7) (v := ?_) rfl (by kernel_rfl) (by kernel_rfl) (by kernel_rfl) (fun _ _ _ h => h) (Or.inl ⟨by kernel_rfl, ?_⟩) (by assumption) ?_
  rotate_left 1
  · (intro w hSw; obtain ⟨hk1, hk2⟩ := hSw; go_simp <;> with_reducible rfl)
  simp only [Act.put, List.getElem_toArray, List.getElem_cons_zero, List.getElem_cons_succ, List.setIfInBounds_toArray, List.set_cons_zero, List.set_cons_succ]
  refine wpAnyH_take (i := 8) (v := ?_) rfl (by kernel_rfl) (by kernel_rfl) (by kernel_rfl) (fun _ _ _ h => h) (Or.inl ⟨by kernel_rfl, ?_⟩) (by assumption) ?_
  rotate_left 1
  · (intro w hSw; obtain ⟨hk1, hk2⟩ := hSw; go_simp <;> with_reducible rfl)
  simp only [Act.put, List.getElem_toArray, List.getElem_cons_zero, List.getElem_cons_succ, List.setIfInBounds_toArray, List.set_cons_zero, List.set_cons_succ]
  refine wpAnyH_take (i := 9) (v := ?_) rfl (by kernel_rfl) (by kernel_rfl) (by kernel_rfl) (fun _ _ _ h => h) (Or.inl ⟨by kernel_rfl, ?_⟩) (by assumption) ?_
  rotate_left 1
  · (intro w hSw; obtain ⟨hk1, hk2⟩ := hSw; go_simp <;> with_reducible rfl)
  simp only [Act.put, List.getElem_toArray, List.getElem_cons_zero, List.getElem_cons_succ, List.setIfInBounds_toArray, List.set_cons_zero, List.set_cons_succ]
  refine wpAnyH_take (i := 10) (v := ?_) rfl (by kernel_rfl) (by kernel_rfl) (by kernel_rfl) (fun _ _ _ h => h) (Or.inl ⟨by kernel_rfl, ?_⟩) (by assumption) ?_
  rotate_left 1
  · (intro w hSw; obtain ⟨hk1, hk2⟩ := hSw; go_simp <;> with_reducible rfl)
  simp only [Act.put, List.getElem_toArray, List.getElem_cons_zero, List.getElem_cons_succ, List.setIfInBounds_toArray, List.set_cons_zero, List.set_cons_succ]
  refine wpAnyH_done (by kernel_rfl) ?_ _
  have hb2_3 : Below w2.heap.size w2 w3 := hSd.2
  have kS3 := kS2.bel hb2_3
  have kF3 := kF2.bel hb2_3
  have kL3 := kL2.bel hb2_3
  have hr3 := hr2.bel hb2_3
  have hB3 : Below q w w3 := hB2.trans (hb2_3.mono z2)
  have z3 : q ≤ w3.heap.size := by have := hb2_3.size; omega
  have ykS_3 := kS3.lt
  have ykF_3 := kF3.lt
  have ykL_3 := kL3.lt
  clear s0 s1 t0 t1 t2 u0 u1 u2 hB2 z2 hb2_3 kS2 kF2 kL2 hr2 ykS_2 ykF_2 ykL_2
  have s0 := kS3.cell 0; have s1 := kS3.cell 1; simp only [List.getElem?_cons_zero, List.getElem?_cons_succ] at s0 s1
  have t0 := kF3.cell 0; have t1 := kF3.cell 1; have t2 := kF3.cell 2; simp only [List.getElem?_cons_zero, List.getElem?_cons_succ] at t0 t1 t2
  have u0 := kL3.cell 0; have u1 := kL3.cell 1; have u2 := kL3.cell 2; simp only [List.getElem?_cons_zero, List.getElem?_cons_succ] at u0 u1 u2
  clear hSd hbp hb3 rap rcp
  go_upto_region 6 with fail
  have hSd : (∀ b o, b < w3.heap.size → w3.drew.cell? ⟨b, o, none⟩ = w3.cell? ⟨b, o, none⟩) ∧ Below w3.heap.size w3 w3.drew := kp (Below.refl _ _).drew
  refine wp_region_held (S := fun w' => (∀ b o, b < w3.heap.size → w'.cell? ⟨b, o, none⟩ = w3.cell? ⟨b, o, none⟩) ∧ Below w3.heap.size w3 w') (by kernel_rfl) ?_
  change wpAnyH _ _ _ _ _ _ _ _ w3.drew
  refine wpAnyH_take (i := 0) (v := ?_) rfl (by kernel_rfl) (by kernel_rfl) (by kernel_rfl) (fun _ _ _ h => h) (Or.inl ⟨by kernel_rfl, ?_⟩) (by assumption) ?_
  rotate_left 1
  · (intro w hSw; obtain ⟨hk1, hk2⟩ := hSw; go_simp <;> with_reducible rfl)
  simp only [Act.put, List.getElem_toArray, List.getElem_cons_zero, List.setIfInBounds_toArray, List.set_cons_zero, List.set_cons_succ]
  refine wpAnyH_take (i := 2) (v := ?_) rfl (by kernel_rfl) (by kernel_rfl) (by kernel_rfl) (fun _ _ _ h => h) (Or.inl ⟨by kernel_rfl, ?_⟩) (by assumption) ?_
  rotate_left 1
  · (intro w hSw; obtain ⟨hk1, hk2⟩ := hSw; go_simp <;> with_reducible rfl)
  simp only [Act.put, List.getElem_toArray, List.getElem_cons_zero, List.getElem_cons_succ, List.setIfInBounds_toArray, List.set_cons_zero, List.set_cons_succ]
  refine wpAnyH_take (i := 3) (v := ?_) rfl (by kernel_rfl) (by kernel_rfl) (by kernel_rfl) (fun _ _ _ h => h) (Or.inl ⟨by kernel_rfl, ?_⟩) (by assumption) ?_
  rotate_left 1
  · (intro w hSw; obtain ⟨hk1, hk2⟩ := hSw; go_simp <;> with_reducible rfl)
  simp only [Act.put, List.getElem_toArray, List.getElem_cons_zero, List.getElem_cons_succ, List.setIfInBounds_toArray, List.set_cons_zero, List.set_cons_succ]
  refine nextH (i := 1) (by kernel_rfl) rfl (fun K hK => ?_)
  go_simp
  refine (HCP.out _ (hr3.bel hSd.2)).mono ?_
  rintro e_ wp ⟨⟨Ap, cp, rfl, rap, rcp⟩, hbp⟩
  have hS' := kp (bel_tr hSd.2 hSd.2.size hbp)
  try dsimp only
  refine hK _ _ hS' ?_
  clear hK K hSd
  have hSd := hS'
  clear hS'
  refine nextH (i := 4) (by kernel_rfl) rfl (fun K hK => ?_)
  go_simp
  refine (HRW.out _ _ _ rap).mono ?_
  rintro e_ w4 ⟨rfl, hb4⟩
  have hS' := kp (bel_tr hSd.2 hSd.2.size hb4)
  try dsimp only
  refine hK _ _ hS' ?_
  clear hK K hSd
  have hSd := hS'
  clear hS'
  refine wpAnyH_take (i := 5) (v := ?_) rfl (by kernel_rfl) (by kernel_rfl) (by kernel_rfl) (fun _ _ _ h => h) (Or.inl ⟨by kernel_rfl, ?_⟩) (by assumption) ?_
  rotate_left 1
  · (intro w hSw; obtain ⟨hk1, hk2⟩ := hSw; go_simp <;> with_reducible rfl)
  simp only [Act.put, List.getElem_toArray, List.getElem_cons_zero, List.getElem_cons_succ, List.setIfInBounds_toArray, List.set_cons_zero, List.set_cons_succ]
  refine wpAnyH_take (i := 6) (v := ?_) rfl (by kernel_rfl) (by kernel_rfl) (by kernel_rfl) (fun _ _ _ h => h) (Or.inl ⟨by kernel_rfl, ?_⟩) (by assumption) ?_
  rotate_left 1
  · (intro w hSw; obtain ⟨hk1, hk2⟩ := hSw; go_simp <;> with_reducible rfl)
  simp only [Act.put, List.getElem_toArray, List.getElem_cons_zero, List.getElem_cons_succ, List.setIfInBounds_toArray, List.set_cons_zero, List.set_cons_succ]
  refine wpAnyH_take (i := 7) (v := ?_) rfl (by kernel_rfl) (by kernel_rfl) (by kernel_rfl) (fun _ _ _ h => h) (Or.inl ⟨by kernel_rfl, ?_⟩) (by assumption) ?_
  rotate_left 1
  · (intro w hSw; obtain ⟨hk1, hk2⟩ := hSw; go_simp <;> with_reducible rfl)
  simp only [Act.put, List.getElem_toArray, List.getElem_cons_zero, List.getElem_cons_succ, List.setIfInBounds_toArray, List.set_cons_zero, List.set_cons_succ]
  refine wpAnyH_take (i := 8) (v := ?_) rfl (by kernel_rfl) (by kernel_rfl) (by kernel_rfl) (fun _ _ _ h => h) (Or.inl ⟨by kernel_rfl, ?_⟩) (by assumption) ?_
  rotate_left 1
  · (intro w hSw; obtain ⟨hk1, hk2⟩ := hSw; go_simp <;> with_reducible rfl)
  simp only [Act.put, List.getElem_toArray, List.getElem_cons_zero, List.getElem_cons_succ, List.setIfInBounds_toArray, List.set_cons_zero, List.set_cons_succ]
  refine wpAnyH_take (i := 9) (v := ?_) rfl (by kernel_rfl) (by kernel_rfl) (by kernel_rfl) (fun _ _ _ h => h) (Or.inl ⟨by kernel_rfl, ?_⟩) (by assumption) ?_
  rotate_left 1
  · (intro w hSw; obtain ⟨hk1, hk2⟩ := hSw; go_simp <;> with_reducible rfl)
  simp only [Act.put, List.getElem_toArray, List.getElem_cons_zero, List.getElem_cons_succ, List.setIfInBounds_toArray, List.set_cons_zero, List.set_cons_succ]
  refine wpAnyH_done (by kernel_rfl) ?_ _
  have hb3_4 : Below w3.heap.size w3 w4 := hSd.2
  have kS4 := kS3.bel hb3_4
  have kF4 := kF3.bel hb3_4
  have kL4 := kL3.bel hb3_4
  have hr4 := hr3.bel hb3_4
  have rx4 := rx3.bel hb3_4
  have hB4 : Below q w w4 := hB3.trans (hb3_4.mono z3)
  have z4 : q ≤ w4.heap.size := by have := hb3_4.size; omega
  have ykS_4 := kS4.lt
  have ykF_4 := kF4.lt
  have ykL_4 := kL4.lt
  clear s0 s1 t0 t1 t2 u0 u1 u2 hB3 z3 hb3_4 kS3 kF3 kL3 hr3 rx3 ykS_3 ykF_3 ykL_3
  have s0 := kS4.cell 0; have s1 := kS4.cell 1; simp only [List.getElem?_cons_zero, List.getElem?_cons_succ] at s0 s1
  have t0 := kF4.cell 0; have t1 := kF4.cell 1; have t2 := kF4.cell 2; simp only [List.getElem?_cons_zero, List.getElem?_cons_succ] at t0 t1 t2
  have u0 := kL4.cell 0; have u1 := kL4.cell 1; have u2 := kL4.cell 2; simp only [List.getElem?_cons_zero, List.getElem?_cons_succ] at u0 u1 u2
  clear hSd hbp hb4 rap rcp
  go_upto_region 8 with (go_at_call 71; refine (HXE.out _).mono ?_; rintro e_ w5 ⟨rfl, hb5⟩)
  have hb4_5 : Below w4.heap.size w4 w5 := hb5
  have kS5 := kS4.bel hb4_5
  have kF5 := kF4.bel hb4_5
  have kL5 := kL4.bel hb4_5
  have hr5 := hr4.bel hb4_5
  have rx5 := rx4.bel hb4_5
  have hB5 : Below q w w5 := hB4.trans (hb4_5.mono z4)
  have z5 : q ≤ w5.heap.size := by have := hb4_5.size; omega
  have ykS_5 := kS5.lt
  have ykF_5 := kF5.lt
  have ykL_5 := kL5.lt
  clear s0 s1 t0 t1 t2 u0 u1 u2 hB4 z4 hb4_5 kS4 kF4 kL4 hr4 rx4 ykS_4 ykF_4 ykL_4
  have s0 := kS5.cell 0; have s1 := kS5.cell 1; simp only [List.getElem?_cons_zero, List.getElem?_cons_succ] at s0 s1
  have t0 := kF5.cell 0; have t1 := kF5.cell 1; have t2 := kF5.cell 2; simp only [List.getElem?_cons_zero, List.getElem?_cons_succ] at t0 t1 t2
  have u0 := kL5.cell 0; have u1 := kL5.cell 1; have u2 := kL5.cell 2; simp only [List.getElem?_cons_zero, List.getElem?_cons_succ] at u0 u1 u2
  clear hb5
  go_upto_region 10 with (go_at_call 72; refine (HXC.out _).mono ?_; rintro e_ w6 ⟨rfl, hb6⟩)
  have hb5_6 : Below w5.heap.size w5 w6 := hb6
  have kS6 := kS5.bel hb5_6
  have kF6 := kF5.bel hb5_6
  have kL6 := kL5.bel hb5_6
  have hr6 := hr5.bel hb5_6
  have rx6 := rx5.bel hb5_6
  have hB6 : Below q w w6 := hB5.trans (hb5_6.mono z5)
  have z6 : q ≤ w6.heap.size := by have := hb5_6.size; omega
  have ykS_6 := kS6.lt
  have ykF_6 := kF6.lt
  have ykL_6 := kL6.lt
  clear s0 s1 t0 t1 t2 u0 u1 u2 hB5 z5 hb5_6 kS5 kF5 kL5 hr5 rx5 ykS_5 ykF_5 ykL_5
  have s0 := kS6.cell 0; have s1 := kS6.cell 1; simp only [List.getElem?_cons_zero, List.getElem?_cons_succ] at s0 s1
  have t0 := kF6.cell 0; have t1 := kF6.cell 1; have t2 := kF6.cell 2; simp only [List.getElem?_cons_zero, List.getElem?_cons_succ] at t0 t1 t2
  have u0 := kL6.cell 0; have u1 := kL6.cell 1; have u2 := kL6.cell 2; simp only [List.getElem?_cons_zero, List.getElem?_cons_succ] at u0 u1 u2
  clear hb6
  go_upto_region 11 with (go_at_call 53; refine (HSE.out _ hr6).mono ?_; rintro e_ w7 ⟨rfl, hb7⟩)
  have hb6_7 : Below w6.heap.size w6 w7 := hb7
  have kS7 := kS6.bel hb6_7
  have kF7 := kF6.bel hb6_7
  have kL7 := kL6.bel hb6_7
  have hr7 := hr6.bel hb6_7
  have rx7 := rx6.bel hb6_7
  have hB7 : Below q w w7 := hB6.trans (hb6_7.mono z6)
  have z7 : q ≤ w7.heap.size := by have := hb6_7.size; omega
  have ykS_7 := kS7.lt
  have ykF_7 := kF7.lt
  have ykL_7 := kL7.lt
  clear s0 s1 t0 t1 t2 u0 u1 u2 hB6 z6 hb6_7 kS6 kF6 kL6 hr6 rx6 ykS_6 ykF_6 ykL_6
  have s0 := kS7.cell 0; have s1 := kS7.cell 1; simp only [List.getElem?_cons_zero, List.getElem?_cons_succ] at s0 s1
  have t0 := kF7.cell 0; have t1 := kF7.cell 1; have t2 := kF7.cell 2; simp only [List.getElem?_cons_zero, List.getElem?_cons_succ] at t0 t1 t2
  have u0 := kL7.cell 0; have u1 := kL7.cell 1; have u2 := kL7.cell 2; simp only [List.getElem?_cons_zero, List.getElem?_cons_succ] at u0 u1 u2
  clear hb7
  go_upto_region 13 with (go_at_call 24; refine (HFE.out _).mono ?_; rintro e_ w_ ⟨rfl, rfl⟩)
  go_upto_region 17 with (go_at_call 73; refine (HSL.out _).mono ?_; rintro e_ w8 ⟨rfl, hb8⟩)
  have hb7_8 : Below w7.heap.size w7 w8 := hb8
  have kS8 := kS7.bel hb7_8
  have kF8 := kF7.bel hb7_8
  have kL8 := kL7.bel hb7_8
  have hr8 := hr7.bel hb7_8
  have rx8 := rx7.bel hb7_8
  have hB8 : Below q w w8 := hB7.trans (hb7_8.mono z7)
  have z8 : q ≤ w8.heap.size := by have := hb7_8.size; omega
  have ykS_8 := kS8.lt
  have ykF_8 := kF8.lt
  have ykL_8 := kL8.lt
  clear s0 s1 t0 t1 t2 u0 u1 u2 hB7 z7 hb7_8 kS7 kF7 kL7 hr7 rx7 ykS_7 ykF_7 ykL_7
  have s0 := kS8.cell 0; have s1 := kS8.cell 1; simp only [List.getElem?_cons_zero, List.getElem?_cons_succ] at s0 s1
  have t0 := kF8.cell 0; have t1 := kF8.cell 1; have t2 := kF8.cell 2; simp only [List.getElem?_cons_zero, List.getElem?_cons_succ] at t0 t1 t2
  have u0 := kL8.cell 0; have u1 := kL8.cell 1; have u2 := kL8.cell 2; simp only [List.getElem?_cons_zero, List.getElem?_cons_succ] at u0 u1 u2
  clear hb8
  go_upto_region 19 with (first
    | (go_at_call 75; refine (HSP.out _ hr8).mono ?_; rintro e_ w9 ⟨⟨A9, c9, rfl, ra9⟩, hb9⟩)
    | (go_at_call 74; refine (HSS.out _ _ _ _ _ (rx8.bel hb9) ra9).mono ?_; rintro e_ w10 ⟨rfl, hb10⟩))
  have hb8_10 : Below w8.heap.size w8 w10 := bel_tr hb9 hb9.size hb10
  have kS10 := kS8.bel hb8_10
  have kF10 := kF8.bel hb8_10
  have kL10 := kL8.bel hb8_10
  have hr10 := hr8.bel hb8_10
  have rx10 := rx8.bel hb8_10
  have hB10 : Below q w w10 := hB8.trans (hb8_10.mono z8)
  have z10 : q ≤ w10.heap.size := by have := hb8_10.size; omega
  have ykS_10 := kS10.lt
  have ykF_10 := kF10.lt
  have ykL_10 := kL10.lt
  clear s0 s1 t0 t1 t2 u0 u1 u2 hB8 z8 hb8_10 kS8 kF8 kL8 hr8 rx8 ykS_8 ykF_8 ykL_8
  have s0 := kS10.cell 0; have s1 := kS10.cell 1; simp only [List.getElem?_cons_zero, List.getElem?_cons_succ] at s0 s1
  have t0 := kF10.cell 0; have t1 := kF10.cell 1; have t2 := kF10.cell 2; simp only [List.getElem?_cons_zero, List.getElem?_cons_succ] at t0 t1 t2
  have u0 := kL10.cell 0; have u1 := kL10.cell 1; have u2 := kL10.cell 2; simp only [List.getElem?_cons_zero, List.getElem?_cons_succ] at u0 u1 u2
  clear hb9 hb10 ra9
  go_upto_region 20 with (go_at_call 53; refine (HSE.out _ hr10).mono ?_; rintro e_ w11 ⟨rfl, hb11⟩)
  have hb10_11 : Below w10.heap.size w10 w11 := hb11
  have kS11 := kS10.bel hb10_11
  have kF11 := kF10.bel hb10_11
  have kL11 := kL10.bel hb10_11
  have hr11 := hr10.bel hb10_11
  have rx11 := rx10.bel hb10_11
  have hB11 : Below q w w11 := hB10.trans (hb10_11.mono z10)
  have z11 : q ≤ w11.heap.size := by have := hb10_11.size; omega
  have ykS_11 := kS11.lt
  have ykF_11 := kF11.lt
  have ykL_11 := kL11.lt
  clear s0 s1 t0 t1 t2 u0 u1 u2 hB10 z10 hb10_11 kS10 kF10 kL10 hr10 rx10 ykS_10 ykF_10 ykL_10
  have s0 := kS11.cell 0; have s1 := kS11.cell 1; simp only [List.getElem?_cons_zero, List.getElem?_cons_succ] at s0 s1
  have t0 := kF11.cell 0; have t1 := kF11.cell 1; have t2 := kF11.cell 2; simp only [List.getElem?_cons_zero, List.getElem?_cons_succ] at t0 t1 t2
  have u0 := kL11.cell 0; have u1 := kL11.cell 1; have u2 := kL11.cell 2; simp only [List.getElem?_cons_zero, List.getElem?_cons_succ] at u0 u1 u2
  clear hb11
  go_upto_region 24 with (go_at_call 76; refine (HSH.out _).mono ?_; rintro e_ w12 ⟨rfl, hb12⟩)
  have hb11_12 : Below w11.heap.size w11 w12 := hb12
  have kS12 := kS11.bel hb11_12
  have kF12 := kF11.bel hb11_12
  have kL12 := kL11.bel hb11_12
  have hr12 := hr11.bel hb11_12
  have rx12 := rx11.bel hb11_12
  have hB12 : Below q w w12 := hB11.trans (hb11_12.mono z11)
  have z12 : q ≤ w12.heap.size := by have := hb11_12.size; omega
  have ykS_12 := kS12.lt
  have ykF_12 := kF12.lt
  have ykL_12 := kL12.lt
  clear s0 s1 t0 t1 t2 u0 u1 u2 hB11 z11 hb11_12 kS11 kF11 kL11 hr11 rx11 ykS_11 ykF_11 ykL_11
  have s0 := kS12.cell 0; have s1 := kS12.cell 1; simp only [List.getElem?_cons_zero, List.getElem?_cons_succ] at s0 s1
  have t0 := kF12.cell 0; have t1 := kF12.cell 1; have t2 := kF12.cell 2; simp only [List.getElem?_cons_zero, List.getElem?_cons_succ] at t0 t1 t2
  have u0 := kL12.cell 0; have u1 := kL12.cell 1; have u2 := kL12.cell 2; simp only [List.getElem?_cons_zero, List.getElem?_cons_succ] at u0 u1 u2
  clear hb12
  go_upto_region 26 with (go_at_call 73; refine (HSL.out _).mono ?_; rintro e_ w13 ⟨rfl, hb13⟩)
  have hb12_13 : Below w12.heap.size w12 w13 := hb13
  have kS13 := kS12.bel hb12_13
  have kF13 := kF12.bel hb12_13
  have kL13 := kL12.bel hb12_13
  have hr13 := hr12.bel hb12_13
  have rx13 := rx12.bel hb12_13
  have hB13 : Below q w w13 := hB12.trans (hb12_13.mono z12)
  have z13 : q ≤ w13.heap.size := by have := hb12_13.size; omega
  have ykS_13 := kS13.lt
  have ykF_13 := kF13.lt
  have ykL_13 := kL13.lt
  clear s0 s1 t0 t1 t2 u0 u1 u2 hB12 z12 hb12_13 kS12 kF12 kL12 hr12 rx12 ykS_12 ykF_12 ykL_12
  have s0 := kS13.cell 0; have s1 := kS13.cell 1; simp only [List.getElem?_cons_zero, List.getElem?_cons_succ] at s0 s1
  have t0 := kF13.cell 0; have t1 := kF13.cell 1; have t2 := kF13.cell 2; simp only [List.getElem?_cons_zero, List.getElem?_cons_succ] at t0 t1 t2
  have u0 := kL13.cell 0; have u1 := kL13.cell 1; have u2 := kL13.cell 2; simp only [List.getElem?_cons_zero, List.getElem?_cons_succ] at u0 u1 u2
  clear hb13
  go_wp2_with (go_at_call 77; refine (HRF.out _ hr13).mono ?_; rintro e_ w14 ⟨rfl, hb14⟩; have hB14 : Below q w w14 := hB13.trans (hb14.mono z13))
  go_ret
  exact ⟨rfl, by first | exact hB14 | (rw [hq]; exact hB14)⟩
end Go.Proofs.Ytkcjiejdjdcbeaa

/- The law of fields. -/
set_option linter.unusedSimpArgs false
set_option linter.unusedVariables false
namespace Go.Proofs.Ytkcjiejdjdcbeaa
open Go.RowKit
set_option maxRecDepth 100000

theorem fieldsLaw_many (H gy lo hi f n d : Int) (A : Option Addr) (c : Nat) (l : List G) (w : World) (hr : Rd w A (gs l)) (hl : ¬ l.length ≤ 14) (hm : l.length ≤ maxLen) (g1 : -9223372036854775808 ≤ n ∧ n ≤ 9223372036854775807) (g2 : d ≤ 9223372036854775807) :
    Calls Try.prog 11 #[.agg #[.int .i64 H, .slice A l.length c], .agg #[.int .i64 gy, .int .i64 lo, .int .i64 hi], .agg #[.int .i64 f, .int .i64 n, .int .i64 d]] w fun r w' => r = .returned (.bool true) ∧ Below w.heap.size w w' := by
  have HFW := hide (fun W => few_c H A c l W)
  rw [decide_eq_false (show ¬ (l.length : Int) ≤ 14 by omega)] at HFW
  obtain ⟨q, hq⟩ : ∃ q, w.heap.size = q := ⟨_, rfl⟩
  obtain ⟨q1, hq1⟩ : ∃ q1, q + 1 = q1 := ⟨_, rfl⟩
  obtain ⟨q2, hq2⟩ : ∃ q2, q1 + 1 = q2 := ⟨_, rfl⟩
  obtain ⟨Wa, hWa⟩ : ∃ Wa, w.alloc (.cells #[.int .i64 H, .slice A l.length c] 24) = Wa := ⟨_, rfl⟩
  have ba : Below w.heap.size w Wa := by rw [← hWa]; exact alloc_bel _ _
  have sa : Wa.heap.size = q1 := by rw [← hWa, ← hq1, ← hq]; simp
  have ka : Blk Wa q 24 [.int .i64 H, .slice A l.length c] := by rw [← hWa, ← hq]; exact Blk.new w _ [_, _]
  obtain ⟨Wb, hWb⟩ : ∃ Wb, Wa.alloc (.cells #[.int .i64 gy, .int .i64 lo, .int .i64 hi] 121) = Wb := ⟨_, rfl⟩
  have bb : Below Wa.heap.size Wa Wb := by rw [← hWb]; exact alloc_bel _ _
  have sb : Wb.heap.size = q2 := by rw [← hWb, ← hq2, ← sa]; simp
  have kb : Blk Wb q1 121 [.int .i64 gy, .int .i64 lo, .int .i64 hi] := by rw [← hWb, ← sa]; exact Blk.new Wa _ [_, _, _]
  obtain ⟨w0, hWc⟩ : ∃ w0, Wb.alloc (.cells #[.int .i64 f, .int .i64 n, .int .i64 d] 123) = w0 := ⟨_, rfl⟩
  have bc : Below Wb.heap.size Wb w0 := by rw [← hWc]; exact alloc_bel _ _
  have kL0 : Blk w0 q2 123 [.int .i64 f, .int .i64 n, .int .i64 d] := by rw [← hWc, ← sb]; exact Blk.new Wb _ [_, _, _]
  have hABC : ((w.alloc (.cells #[.int .i64 H, .slice A l.length c] 24)).alloc (.cells #[.int .i64 gy, .int .i64 lo, .int .i64 hi] 121)).alloc (.cells #[.int .i64 f, .int .i64 n, .int .i64 d] 123) = w0 := by rw [hWa, hWb, hWc]
  have HW := hide hABC
  have kS0 := (ka.bel bb).bel bc
  have kF0 := kb.bel bc
  have hr0 := ((hr.bel ba).bel bb).bel bc
  have hB0 : Below q w w0 := by
    rw [hq] at ba
    exact (ba.trans (bb.mono (by omega))).trans (bc.mono (by omega))
  have z0 : q ≤ w0.heap.size := by have := kS0.lt; omega
  clear hABC hWa hWb hWc ba bb bc ka kb sa sb
  have ykS_0 := kS0.lt
  have ykF_0 := kF0.lt
  have ykL_0 := kL0.lt
  have s0 := kS0.cell 0; have s1 := kS0.cell 1; simp only [List.getElem?_cons_zero, List.getElem?_cons_succ] at s0 s1
  have t0 := kF0.cell 0; have t1 := kF0.cell 1; have t2 := kF0.cell 2; simp only [List.getElem?_cons_zero, List.getElem?_cons_succ] at t0 t1 t2
  have u0 := kL0.cell 0; have u1 := kL0.cell 1; have u2 := kL0.cell 2; simp only [List.getElem?_cons_zero, List.getElem?_cons_succ] at u0 u1 u2
  go_enter Try.func11, Try.ntmps11
  go_upto_region 1 with fail
  try simp only [World.size_alloc, hq, hq1, hq2]
  rw [HW.out]
  go_upto_region 3 with (go_at_call 15; refine (awake_c _).mono ?_; rintro e_ w1 ⟨rfl, hb1⟩)
  have hb0_1 : Below w0.heap.size w0 w1 := hb1
  have kS1 := kS0.bel hb0_1
  have kF1 := kF0.bel hb0_1
  have kL1 := kL0.bel hb0_1
  have hr1 := hr0.bel hb0_1
  have hB1 : Below q w w1 := hB0.trans (hb0_1.mono z0)
  have z1 : q ≤ w1.heap.size := by have := hb0_1.size; omega
  have ykS_1 := kS1.lt
  have ykF_1 := kF1.lt
  have ykL_1 := kL1.lt
  clear s0 s1 t0 t1 t2 u0 u1 u2 hB0 z0 hb0_1 kS0 kF0 kL0 hr0 ykS_0 ykF_0 ykL_0
  have s0 := kS1.cell 0; have s1 := kS1.cell 1; simp only [List.getElem?_cons_zero, List.getElem?_cons_succ] at s0 s1
  have t0 := kF1.cell 0; have t1 := kF1.cell 1; have t2 := kF1.cell 2; simp only [List.getElem?_cons_zero, List.getElem?_cons_succ] at t0 t1 t2
  have u0 := kL1.cell 0; have u1 := kL1.cell 1; have u2 := kL1.cell 2; simp only [List.getElem?_cons_zero, List.getElem?_cons_succ] at u0 u1 u2
  go_wp2_with (go_at_call 16; refine (HFW.out _).mono ?_; rintro e_ w2 ⟨rfl, hb2⟩; have hB2 : Below q w w2 := hB1.trans (hb2.mono z1))
  go_ret
  exact ⟨rfl, by first | exact hB2 | (rw [hq]; exact hB2)⟩
theorem fieldsLaw_c (H gy lo hi f n d : Int) (A : Option Addr) (c : Nat) (l : List G) (w : World) (hr : Rd w A (gs l)) (hm : l.length ≤ maxLen) (g1 : -9223372036854775808 ≤ n ∧ n ≤ 9223372036854775807) (g2 : d ≤ 9223372036854775807) :
    Calls Try.prog 11 #[.agg #[.int .i64 H, .slice A l.length c], .agg #[.int .i64 gy, .int .i64 lo, .int .i64 hi], .agg #[.int .i64 f, .int .i64 n, .int .i64 d]] w fun r w' => r = .returned (.bool true) ∧ Below w.heap.size w w' := by
  by_cases hl : l.length ≤ 14
  · by_cases hs : (skyE H l).2 = 0
    · by_cases hfr : freqE f = 0
      · by_cases hfd : fieldE gy lo hi = 0
        · by_cases hla : launchE n d = 0
          · by_cases hsl : gyroE f gy = 0
            · exact fieldsLaw_00000 H gy lo hi f n d A c l w hr hl g1 g2 hs hfr hfd hla hsl
            · exact fieldsLaw_00001 H gy lo hi f n d A c l w hr hl g1 g2 hs hfr hfd hla hsl
          · by_cases hsl : gyroE f gy = 0
            · exact fieldsLaw_00010 H gy lo hi f n d A c l w hr hl g1 g2 hs hfr hfd hla hsl
            · exact fieldsLaw_00011 H gy lo hi f n d A c l w hr hl g1 g2 hs hfr hfd hla hsl
        · exact fieldsLaw_001xx H gy lo hi f n d A c l w hr hl g1 g2 hs hfr hfd
      · by_cases hfd : fieldE gy lo hi = 0
        · exact fieldsLaw_010xx H gy lo hi f n d A c l w hr hl g1 g2 hs hfr hfd
        · exact fieldsLaw_011xx H gy lo hi f n d A c l w hr hl g1 g2 hs hfr hfd
    · exact fieldsLaw_1xxxx H gy lo hi f n d A c l w hr hl g1 g2 hs
  · exact fieldsLaw_many H gy lo hi f n d A c l w hr hl hm g1 g2
end Go.Proofs.Ytkcjiejdjdcbeaa

