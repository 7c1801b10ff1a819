/- The law of skies. -/
import Derived.Test.YtkcjiejdjdcbeaaRy43
import Derived.Test.YtkcjiejdjdcbeaaRy39
import Derived.Test.YtkcjiejdjdcbeaaRy29
import Derived.Test.YtkcjiejdjdcbeaaRy30
import Derived.Test.YtkcjiejdjdcbeaaRy31
import Derived.Test.YtkcjiejdjdcbeaaRy33
import Derived.Test.YtkcjiejdjdcbeaaRy34
import Derived.Test.YtkcjiejdjdcbeaaRy28
set_option linter.unusedSimpArgs false
set_option linter.unusedVariables false
set_option linter.unusedSimpArgs false
set_option linter.unusedVariables false
namespace Go.Proofs.Ytkcjiejdjdcbeaa
open Go.RowKit
set_option maxRecDepth 100000

theorem firstE_01 (e : Int) : firstE [0, e] = e := by by_cases h : e = 0 <;> simp [firstE, h]
set_option maxHeartbeats 8000000 in
theorem skiesLaw_bad (H f n d : Int) (A : Option Addr) (c : Nat) (l : List G) (w : World) (hr : Rd w A (gs l)) (hl : l.length ≤ 14) (g1 : -9223372036854775808 ≤ n) (g2 : n ≤ 9223372036854775807) (g3 : d ≤ 9223372036854775807) (he : (skyE H l).2 ≠ 0) :
    Calls Try.prog 3 #[.agg #[.int .i64 H, .slice A l.length c], .int .i64 f, .agg #[.int .i64 n, .int .i64 d]] w fun r w' => r = .returned (.bool true) ∧ Below w.heap.size w w' := by
  have HCP := hide (fun W (h : Rd W A (gs l)) => copySky_c H A c l W h (by omega))
  have HFW := hide (fun W => few_c H A c l W)
  rw [decide_eq_true (show (l.length : Int) ≤ 14 by omega)] at HFW
  have HRC := hide (fun W (h : Rd W A (gs l)) => refCheckSky_c H A c l W h (by omega))
  have HCK := hide (fun A' c' W (h : Rd W A' (gs l)) => checkSky_c H A' c' l W h (by omega))
  have HCR := hide (fun A' c' W (h : Rd W A' (gs l)) => criticalOf_c H A' c' l W h (by omega))
  rw [show critQ H l = (0, (skyE H l).2) by unfold critQ; rw [if_pos he]] at HCR
  have e2 : ixsE H f l = (skyE H l).2 := by unfold ixsE; simp [firstE, he]
  have HIX := hide (fun A' c' W (h : Rd W A' (gs l)) => indexesOf_c H f A' c' l W h (by omega))
  rw [show ixsL H f l = [] by unfold ixsL; rw [if_neg (by rw [e2]; exact he)], e2] at HIX
  have e3 : secE H n d l = (skyE H l).2 := by unfold secE; simp [firstE, he]
  have HSC := hide (fun A' c' W (h : Rd W A' (gs l)) => secantOf_c H n d A' c' l W h (by omega) g1 g2 g3)
  rw [show secQ H n d l = (0, (skyE H l).2) by unfold secQ; rw [if_pos (by rw [e3]; exact he), e3]] at HSC
  clear e2 e3
  generalize (skyE H l).2 = e at *
  generalize (skyE H l).1 = i at *
  dsimp only at HCR HSC
  have e1 : (e != 0) = true := by simpa using he
  clear he
  obtain ⟨q, hq⟩ : ∃ q, w.heap.size = q := ⟨_, rfl⟩
  obtain ⟨q1, hq1⟩ : ∃ q1, q + 1 = q1 := ⟨_, rfl⟩
  obtain ⟨Wa, hWa⟩ : ∃ Wa, w.alloc (.cells #[.int .i64 H, .slice A l.length c] 24) = Wa := ⟨_, rfl⟩
  have ba : Below w.heap.size w Wa := by rw [← hWa]; exact alloc_bel _ _
  have sa : Wa.heap.size = q1 := by rw [← hWa, ← hq1, ← hq]; simp
  have ka : Blk Wa q 24 [.int .i64 H, .slice A l.length c] := by rw [← hWa, ← hq]; exact Blk.new w _ [_, _]
  obtain ⟨w0, hWb⟩ : ∃ w0, Wa.alloc (.cells #[.int .i64 n, .int .i64 d] 26) = w0 := ⟨_, rfl⟩
  have bb : Below Wa.heap.size Wa w0 := by rw [← hWb]; exact alloc_bel _ _
  have kL0 : Blk w0 q1 26 [.int .i64 n, .int .i64 d] := by rw [← hWb, ← sa]; exact Blk.new Wa _ [_, _]
  have hAB : (w.alloc (.cells #[.int .i64 H, .slice A l.length c] 24)).alloc (.cells #[.int .i64 n, .int .i64 d] 26) = w0 := by rw [hWa, hWb]
  have HW := hide hAB
  have kS0 := ka.bel bb
  have hr0 := (hr.bel ba).bel bb
  have hB0 : Below q w w0 := by
    rw [hq] at ba
    exact ba.trans (bb.mono (by omega))
  have z0 : q ≤ w0.heap.size := by have := kS0.lt; omega
  have y0 := kS0.lt
  have x0 := kL0.lt
  clear hAB hWa hWb ba bb ka sa
  have s0 := kS0.cell 0; have s1 := kS0.cell 1; simp only [List.getElem?_cons_zero, List.getElem?_cons_succ] at s0 s1
  have t0 := kL0.cell 0; have t1 := kL0.cell 1; simp only [List.getElem?_cons_zero, List.getElem?_cons_succ] at t0 t1
  go_enter Try.func3, Try.ntmps3
  go_upto_region 1 with fail
  try simp only [World.size_alloc, hq, hq1]
  rw [HW.out]
  go_upto_region 3 with (go_at_call 15; refine (awake_c _).mono ?_; rintro e_ w1 ⟨rfl, hb1⟩)
  have hb0_1 : Below w0.heap.size w0 w1 := hb1
  have kS1 := kS0.bel hb0_1
  have kL1 := kL0.bel hb0_1
  have hr1 := hr0.bel hb0_1
  have hB1 : Below q w w1 := hB0.trans (hb0_1.mono z0)
  have z1 : q ≤ w1.heap.size := by have := hb0_1.size; omega
  have y1 := kS1.lt
  have x1 := kL1.lt
  clear s0 s1 t0 t1
  have s0 := kS1.cell 0; have s1 := kS1.cell 1; simp only [List.getElem?_cons_zero, List.getElem?_cons_succ] at s0 s1
  have t0 := kL1.cell 0; have t1 := kL1.cell 1; simp only [List.getElem?_cons_zero, List.getElem?_cons_succ] at t0 t1
  go_upto_region 5 with (go_at_call 16; refine (HFW.out _).mono ?_; rintro e_ w2 ⟨rfl, hb2⟩)
  have hb1_2 : Below w1.heap.size w1 w2 := hb2
  have kS2 := kS1.bel hb1_2
  have kL2 := kL1.bel hb1_2
  have hr2 := hr1.bel hb1_2
  have hB2 : Below q w w2 := hB1.trans (hb1_2.mono z1)
  have z2 : q ≤ w2.heap.size := by have := hb1_2.size; omega
  have y2 := kS2.lt
  have x2 := kL2.lt
  clear s0 s1 t0 t1
  have s0 := kS2.cell 0; have s1 := kS2.cell 1; simp only [List.getElem?_cons_zero, List.getElem?_cons_succ] at s0 s1
  have t0 := kL2.cell 0; have t1 := kL2.cell 1; simp only [List.getElem?_cons_zero, List.getElem?_cons_succ] at t0 t1
  go_upto_region 6 with (first
    | (go_at_call 18; refine (HCP.out _ hr2).mono ?_; rintro e_ w3 ⟨⟨A3, c3, rfl, ra3, rc3⟩, hb3⟩)
    | (go_at_call 17; refine (HCK.out _ _ _ ra3).mono ?_; rintro e_ w4 ⟨rfl, hb4⟩))
  have hb2_4 : Below w2.heap.size w2 w4 := bel_tr hb3 hb3.size hb4
  have kS4 := kS2.bel hb2_4
  have kL4 := kL2.bel hb2_4
  have hr4 := hr2.bel hb2_4
  have hB4 : Below q w w4 := hB2.trans (hb2_4.mono z2)
  have z4 : q ≤ w4.heap.size := by have := hb2_4.size; omega
  have y4 := kS4.lt
  have x4 := kL4.lt
  clear s0 s1 t0 t1
  have s0 := kS4.cell 0; have s1 := kS4.cell 1; simp only [List.getElem?_cons_zero, List.getElem?_cons_succ] at s0 s1
  have t0 := kL4.cell 0; have t1 := kL4.cell 1; simp only [List.getElem?_cons_zero, List.getElem?_cons_succ] at t0 t1
  go_upto_region 7 with (first
    | (go_at_call 18; refine (HCP.out _ hr4).mono ?_; rintro e_ w5 ⟨⟨A5, c5, rfl, ra5, rc5⟩, hb5⟩)
    | (go_at_call 19; refine (HCR.out _ _ _ ra5).mono ?_; rintro e_ w6 ⟨rfl, hb6⟩))
  have hb4_6 : Below w4.heap.size w4 w6 := bel_tr hb5 hb5.size hb6
  have kS6 := kS4.bel hb4_6
  have kL6 := kL4.bel hb4_6
  have hr6 := hr4.bel hb4_6
  have hB6 : Below q w w6 := hB4.trans (hb4_6.mono z4)
  have z6 : q ≤ w6.heap.size := by have := hb4_6.size; omega
  have y6 := kS6.lt
  have x6 := kL6.lt
  clear s0 s1 t0 t1
  have s0 := kS6.cell 0; have s1 := kS6.cell 1; simp only [List.getElem?_cons_zero, List.getElem?_cons_succ] at s0 s1
  have t0 := kL6.cell 0; have t1 := kL6.cell 1; simp only [List.getElem?_cons_zero, List.getElem?_cons_succ] at t0 t1
  go_upto_region 8 with (first
    | (go_at_call 18; refine (HCP.out _ hr6).mono ?_; rintro e_ w7 ⟨⟨A7, c7, rfl, ra7, rc7⟩, hb7⟩)
    | (go_at_call 20; refine (HIX.out _ _ _ ra7).mono ?_; rintro e_ w8 ⟨⟨A8, c8, rfl, rx8⟩, hb8⟩))
  have hb6_8 : Below w6.heap.size w6 w8 := bel_tr hb7 hb7.size hb8
  have kS8 := kS6.bel hb6_8
  have kL8 := kL6.bel hb6_8
  have hr8 := hr6.bel hb6_8
  have hB8 : Below q w w8 := hB6.trans (hb6_8.mono z6)
  have z8 : q ≤ w8.heap.size := by have := hb6_8.size; omega
  have y8 := kS8.lt
  have x8 := kL8.lt
  clear s0 s1 t0 t1
  have s0 := kS8.cell 0; have s1 := kS8.cell 1; simp only [List.getElem?_cons_zero, List.getElem?_cons_succ] at s0 s1
  have t0 := kL8.cell 0; have t1 := kL8.cell 1; simp only [List.getElem?_cons_zero, List.getElem?_cons_succ] at t0 t1
  have hSd : (∀ b o, b < w8.heap.size → w8.drew.cell? ⟨b, o, none⟩ = w8.cell? ⟨b, o, none⟩) ∧ Below w8.heap.size w8 w8.drew := kp (Below.refl _ _).drew
  refine wp_region_held (S := fun w' => (∀ b o, b < w8.heap.size → w'.cell? ⟨b, o, none⟩ = w8.cell? ⟨b, o, none⟩) ∧ Below w8.heap.size w8 w') (by kernel_rfl) ?_
  change wpAnyH _ _ _ _ _ _ _ _ w8.drew
  refine wpAnyH_take (i := 0) (v := ?_) rfl (by kernel_rfl) (by kernel_rfl) (by kernel_rfl) (fun _ _ _ h => h) (Or.inl ⟨by kernel_rfl, ?_⟩) (by assumption) ?_
  rotate_left 1
  · (intro w hSw; obtain ⟨hk1, hk2⟩ := hSw; go_simp <;> with_reducible rfl)
  simp only [Act.put, List.getElem_toArray, List.getElem_cons_zero, List.setIfInBounds_toArray, List.set_cons_zero, List.set_cons_succ]
  refine wpAnyH_take (i := 2) (v := ?_) rfl (by kernel_rfl) (by kernel_rfl) (by kernel_rfl) (fun _ _ _ h => h) (Or.inl ⟨by kernel_rfl, ?_⟩) (by assumption) ?_
  rotate_left 1
  · (intro w hSw; obtain ⟨hk1, hk2⟩ := hSw; go_simp <;> with_reducible rfl)
  simp only [Act.put, List.getElem_toArray, List.getElem_cons_zero, List.getElem_cons_succ, List.setIfInBounds_toArray, List.set_cons_zero, List.set_cons_succ]
  refine nextH (i := 1) (by kernel_rfl) rfl (fun K hK => ?_)
  go_simp
  refine (HCP.out _ (hr8.bel hSd.2)).mono ?_
  rintro e_ w9 ⟨⟨A9, c9, rfl, ra9, rc9⟩, hb9⟩
  have hS' := kp (bel_tr hSd.2 hSd.2.size hb9)
  try dsimp only
  refine hK _ _ hS' ?_
  clear hK K hSd
  have hSd := hS'
  clear hS'
  refine nextH (i := 3) (by kernel_rfl) rfl (fun K hK => ?_)
  go_simp
  refine (HSC.out _ _ _ ra9).mono ?_
  rintro e_ w10 ⟨rfl, hb10⟩
  have hS' := kp (bel_tr hSd.2 hSd.2.size hb10)
  try dsimp only
  refine hK _ _ hS' ?_
  clear hK K hSd
  have hSd := hS'
  clear hS'
  refine wpAnyH_take (i := 4) (v := ?_) rfl (by kernel_rfl) (by kernel_rfl) (by kernel_rfl) (fun _ _ _ h => h) (Or.inl ⟨by kernel_rfl, ?_⟩) (by assumption) ?_
  rotate_left 1
  · (intro w hSw; obtain ⟨hk1, hk2⟩ := hSw; go_simp <;> with_reducible rfl)
  simp only [Act.put, List.getElem_toArray, List.getElem_cons_zero, List.getElem_cons_succ, List.setIfInBounds_toArray, List.set_cons_zero, List.set_cons_succ]
  refine wpAnyH_take (i := 5) (v := ?_) rfl (by kernel_rfl) (by kernel_rfl) (by kernel_rfl) (fun _ _ _ h => h) (Or.inl ⟨by kernel_rfl, ?_⟩) (by assumption) ?_
  rotate_left 1
  · (intro w hSw; obtain ⟨hk1, hk2⟩ := hSw; go_simp <;> with_reducible rfl)
  simp only [Act.put, List.getElem_toArray, List.getElem_cons_zero, List.getElem_cons_succ, List.setIfInBounds_toArray, List.set_cons_zero, List.set_cons_succ]
  refine wpAnyH_take (i := 6) (v := ?_) rfl (by kernel_rfl) (by kernel_rfl) (by kernel_rfl) (fun _ _ _ h => h) (Or.inl ⟨by kernel_rfl, ?_⟩) (by assumption) ?_
  rotate_left 1
  · (intro w hSw; obtain ⟨hk1, hk2⟩ := hSw; go_simp <;> with_reducible rfl)
  simp only [Act.put, List.getElem_toArray, List.getElem_cons_zero, List.getElem_cons_succ, List.setIfInBounds_toArray, List.set_cons_zero, List.set_cons_succ]
  refine wpAnyH_take (i := 7) (v := ?_) rfl (by kernel_rfl) (by kernel_rfl) (by kernel_rfl) (fun _ _ _ h => h) (Or.inl ⟨by kernel_rfl, ?_⟩) (by assumption) ?_
  rotate_left 1
  · (intro w hSw; obtain ⟨hk1, hk2⟩ := hSw; go_simp <;> with_reducible rfl)
  simp only [Act.put, List.getElem_toArray, List.getElem_cons_zero, List.getElem_cons_succ, List.setIfInBounds_toArray, List.set_cons_zero, List.set_cons_succ]
  refine wpAnyH_take (i := 8) (v := ?_) rfl (by kernel_rfl) (by kernel_rfl) (by kernel_rfl) (fun _ _ _ h => h) (Or.inl ⟨by kernel_rfl, ?_⟩) (by assumption) ?_
  rotate_left 1
  · (intro w hSw; obtain ⟨hk1, hk2⟩ := hSw; go_simp <;> with_reducible rfl)
  simp only [Act.put, List.getElem_toArray, List.getElem_cons_zero, List.getElem_cons_succ, List.setIfInBounds_toArray, List.set_cons_zero, List.set_cons_succ]
  refine wpAnyH_done (by kernel_rfl) ?_ _
  have hb8_10 : Below w8.heap.size w8 w10 := hSd.2
  have kS10 := kS8.bel hb8_10
  have kL10 := kL8.bel hb8_10
  have hr10 := hr8.bel hb8_10
  have hB10 : Below q w w10 := hB8.trans (hb8_10.mono z8)
  have z10 : q ≤ w10.heap.size := by have := hb8_10.size; omega
  have y10 := kS10.lt
  have x10 := kL10.lt
  have rx10 := rx8.bel hSd.2
  clear s0 s1 t0 t1
  have s0 := kS10.cell 0; have s1 := kS10.cell 1; simp only [List.getElem?_cons_zero, List.getElem?_cons_succ] at s0 s1
  have t0 := kL10.cell 0; have t1 := kL10.cell 1; simp only [List.getElem?_cons_zero, List.getElem?_cons_succ] at t0 t1
  clear hSd hb1 hb2 hb3 hb4 hb5 hb6 hb7 hb8 hb9 hb10 ra3 ra5 ra7 ra9 rc3 rc5 rc7 rc9 rx8 kS0 kS1 kS2 kS4 kS6 kS8 kL0 kL1 kL2 kL4 kL6 kL8 hr0 hr1 hr2 hr4 hr6 hr8 hb0_1 hb1_2 hb2_4 hb4_6 hb6_8 hb8_10 y0 y1 y2 y4 y6 y8 x0 x1 x2 x4 x6 x8 z0 z1 z2 z4 z6 z8 hB0 hB1 hB2 hB4 hB6 hB8 HCP HFW HCK HCR HIX HSC
  go_upto_region 10 with (go_at_call 22; refine (HRC.out _ hr10).mono ?_; rintro e_ w11 ⟨rfl, hb11⟩)
  have hb10_11 : Below w10.heap.size w10 w11 := hb11
  have kS11 := kS10.bel hb10_11
  have kL11 := kL10.bel hb10_11
  have hr11 := hr10.bel hb10_11
  have hB11 : Below q w w11 := hB10.trans (hb10_11.mono z10)
  have z11 : q ≤ w11.heap.size := by have := hb10_11.size; omega
  have y11 := kS11.lt
  have x11 := kL11.lt
  have rx11 := rx10.bel hb11
  clear s0 s1 t0 t1
  have s0 := kS11.cell 0; have s1 := kS11.cell 1; simp only [List.getElem?_cons_zero, List.getElem?_cons_succ] at s0 s1
  have t0 := kL11.cell 0; have t1 := kL11.cell 1; simp only [List.getElem?_cons_zero, List.getElem?_cons_succ] at t0 t1
  go_wp2
  go_ret
  exact ⟨rfl, by first | exact hB11 | (rw [hq]; exact hB11)⟩
set_option maxHeartbeats 8000000 in
theorem skiesLaw_ok00 (H f n d : Int) (A : Option Addr) (c : Nat) (l : List G) (w : World) (hr : Rd w A (gs l)) (hl : l.length ≤ 14) (g1 : -9223372036854775808 ≤ n) (g2 : n ≤ 9223372036854775807) (g3 : d ≤ 9223372036854775807) (he : (skyE H l).2 = 0) (hf : freqE f ≠ 0) (hd : launchE n d ≠ 0) :
    Calls Try.prog 3 #[.agg #[.int .i64 H, .slice A l.length c], .int .i64 f, .agg #[.int .i64 n, .int .i64 d]] w fun r w' => r = .returned (.bool true) ∧ Below w.heap.size w w' := by
  obtain ⟨H0, H1, l0, l1, hok⟩ := skyE_zero he
  have HCP := hide (fun W (h : Rd W A (gs l)) => copySky_c H A c l W h (by omega))
  have HFW := hide (fun W => few_c H A c l W)
  rw [decide_eq_true (show (l.length : Int) ≤ 14 by omega)] at HFW
  have HRC := hide (fun W (h : Rd W A (gs l)) => refCheckSky_c H A c l W h (by omega))
  have hfst : (skyE H l).1 = (skyE H l).1 := rfl
  have HCK := hide (fun A' c' W (h : Rd W A' (gs l)) => checkSky_c H A' c' l W h (by omega))
  have HCR := hide (fun A' c' W (h : Rd W A' (gs l)) => criticalOf_c H A' c' l W h (by omega))
  rw [show critQ H l = ((rootN (grsQ l).toNat : Int), 0) by unfold critQ; rw [if_neg (by rw [he]; simp)]] at HCR
  have HC2 := hide (fun W (h : Rd W A (gs l)) => refCritical_c H A c l W h (by omega) hok)
  have e2 : ixsE H f l = freqE f := by unfold ixsE; rw [he]; exact firstE_01 _
  have HIX := hide (fun A' c' W (h : Rd W A' (gs l)) => indexesOf_c H f A' c' l W h (by omega))
  have HFE := hide (fun W => frequencyErr_c f W)
  have HLE := hide (fun W => refLaunchErr_c n d W g1 g2 g3)
  have e3 : secE H n d l = launchE n d := by unfold secE; rw [he]; exact firstE_01 _
  have HSC := hide (fun A' c' W (h : Rd W A' (gs l)) => secantOf_c H n d A' c' l W h (by omega) g1 g2 g3)
  rw [show ixsL H f l = [] by unfold ixsL; rw [if_neg (by rw [e2]; exact hf)], e2] at HIX
  generalize freqE f = ef at hf HFE HIX
  have e5 : (ef != 0) = true := by simpa using hf
  have e6 : (ef == 0) = false := by simpa using hf
  clear hf e2
  rw [show secQ H n d l = (0, launchE n d) by unfold secQ; rw [if_pos (by rw [e3]; exact hd), e3]] at HSC
  generalize launchE n d = el at hd HLE HSC
  have e7 : (el != 0) = true := by simpa using hd
  clear hd e3
  rw [he] at HCK HRC
  generalize (skyE H l).1 = i at HCK HRC
  generalize (rootN (grsQ l).toNat : Int) = cr at HCR HC2
  dsimp only at HCR HSC
  clear he hfst hok
  obtain ⟨q, hq⟩ : ∃ q, w.heap.size = q := ⟨_, rfl⟩
  obtain ⟨q1, hq1⟩ : ∃ q1, q + 1 = q1 := ⟨_, rfl⟩
  obtain ⟨Wa, hWa⟩ : ∃ Wa, w.alloc (.cells #[.int .i64 H, .slice A l.length c] 24) = Wa := ⟨_, rfl⟩
  have ba : Below w.heap.size w Wa := by rw [← hWa]; exact alloc_bel _ _
  have sa : Wa.heap.size = q1 := by rw [← hWa, ← hq1, ← hq]; simp
  have ka : Blk Wa q 24 [.int .i64 H, .slice A l.length c] := by rw [← hWa, ← hq]; exact Blk.new w _ [_, _]
  obtain ⟨w0, hWb⟩ : ∃ w0, Wa.alloc (.cells #[.int .i64 n, .int .i64 d] 26) = w0 := ⟨_, rfl⟩
  have bb : Below Wa.heap.size Wa w0 := by rw [← hWb]; exact alloc_bel _ _
  have kL0 : Blk w0 q1 26 [.int .i64 n, .int .i64 d] := by rw [← hWb, ← sa]; exact Blk.new Wa _ [_, _]
  have hAB : (w.alloc (.cells #[.int .i64 H, .slice A l.length c] 24)).alloc (.cells #[.int .i64 n, .int .i64 d] 26) = w0 := by rw [hWa, hWb]
  have HW := hide hAB
  have kS0 := ka.bel bb
  have hr0 := (hr.bel ba).bel bb
  have hB0 : Below q w w0 := by
    rw [hq] at ba
    exact ba.trans (bb.mono (by omega))
  have z0 : q ≤ w0.heap.size := by have := kS0.lt; omega
  have y0 := kS0.lt
  have x0 := kL0.lt
  clear hAB hWa hWb ba bb ka sa
  have s0 := kS0.cell 0; have s1 := kS0.cell 1; simp only [List.getElem?_cons_zero, List.getElem?_cons_succ] at s0 s1
  have t0 := kL0.cell 0; have t1 := kL0.cell 1; simp only [List.getElem?_cons_zero, List.getElem?_cons_succ] at t0 t1
  go_enter Try.func3, Try.ntmps3
  go_upto_region 1 with fail
  try simp only [World.size_alloc, hq, hq1]
  rw [HW.out]
  go_upto_region 3 with (go_at_call 15; refine (awake_c _).mono ?_; rintro e_ w1 ⟨rfl, hb1⟩)
  have hb0_1 : Below w0.heap.size w0 w1 := hb1
  have kS1 := kS0.bel hb0_1
  have kL1 := kL0.bel hb0_1
  have hr1 := hr0.bel hb0_1
  have hB1 : Below q w w1 := hB0.trans (hb0_1.mono z0)
  have z1 : q ≤ w1.heap.size := by have := hb0_1.size; omega
  have y1 := kS1.lt
  have x1 := kL1.lt
  clear s0 s1 t0 t1
  have s0 := kS1.cell 0; have s1 := kS1.cell 1; simp only [List.getElem?_cons_zero, List.getElem?_cons_succ] at s0 s1
  have t0 := kL1.cell 0; have t1 := kL1.cell 1; simp only [List.getElem?_cons_zero, List.getElem?_cons_succ] at t0 t1
  go_upto_region 5 with (go_at_call 16; refine (HFW.out _).mono ?_; rintro e_ w2 ⟨rfl, hb2⟩)
  have hb1_2 : Below w1.heap.size w1 w2 := hb2
  have kS2 := kS1.bel hb1_2
  have kL2 := kL1.bel hb1_2
  have hr2 := hr1.bel hb1_2
  have hB2 : Below q w w2 := hB1.trans (hb1_2.mono z1)
  have z2 : q ≤ w2.heap.size := by have := hb1_2.size; omega
  have y2 := kS2.lt
  have x2 := kL2.lt
  clear s0 s1 t0 t1
  have s0 := kS2.cell 0; have s1 := kS2.cell 1; simp only [List.getElem?_cons_zero, List.getElem?_cons_succ] at s0 s1
  have t0 := kL2.cell 0; have t1 := kL2.cell 1; simp only [List.getElem?_cons_zero, List.getElem?_cons_succ] at t0 t1
  go_upto_region 6 with (first
    | (go_at_call 18; refine (HCP.out _ hr2).mono ?_; rintro e_ w3 ⟨⟨A3, c3, rfl, ra3, rc3⟩, hb3⟩)
    | (go_at_call 17; refine (HCK.out _ _ _ ra3).mono ?_; rintro e_ w4 ⟨rfl, hb4⟩))
  have hb2_4 : Below w2.heap.size w2 w4 := bel_tr hb3 hb3.size hb4
  have kS4 := kS2.bel hb2_4
  have kL4 := kL2.bel hb2_4
  have hr4 := hr2.bel hb2_4
  have hB4 : Below q w w4 := hB2.trans (hb2_4.mono z2)
  have z4 : q ≤ w4.heap.size := by have := hb2_4.size; omega
  have y4 := kS4.lt
  have x4 := kL4.lt
  clear s0 s1 t0 t1
  have s0 := kS4.cell 0; have s1 := kS4.cell 1; simp only [List.getElem?_cons_zero, List.getElem?_cons_succ] at s0 s1
  have t0 := kL4.cell 0; have t1 := kL4.cell 1; simp only [List.getElem?_cons_zero, List.getElem?_cons_succ] at t0 t1
  go_upto_region 7 with (first
    | (go_at_call 18; refine (HCP.out _ hr4).mono ?_; rintro e_ w5 ⟨⟨A5, c5, rfl, ra5, rc5⟩, hb5⟩)
    | (go_at_call 19; refine (HCR.out _ _ _ ra5).mono ?_; rintro e_ w6 ⟨rfl, hb6⟩))
  have hb4_6 : Below w4.heap.size w4 w6 := bel_tr hb5 hb5.size hb6
  have kS6 := kS4.bel hb4_6
  have kL6 := kL4.bel hb4_6
  have hr6 := hr4.bel hb4_6
  have hB6 : Below q w w6 := hB4.trans (hb4_6.mono z4)
  have z6 : q ≤ w6.heap.size := by have := hb4_6.size; omega
  have y6 := kS6.lt
  have x6 := kL6.lt
  clear s0 s1 t0 t1
  have s0 := kS6.cell 0; have s1 := kS6.cell 1; simp only [List.getElem?_cons_zero, List.getElem?_cons_succ] at s0 s1
  have t0 := kL6.cell 0; have t1 := kL6.cell 1; simp only [List.getElem?_cons_zero, List.getElem?_cons_succ] at t0 t1
  go_upto_region 8 with (first
    | (go_at_call 18; refine (HCP.out _ hr6).mono ?_; rintro e_ w7 ⟨⟨A7, c7, rfl, ra7, rc7⟩, hb7⟩)
    | (go_at_call 20; refine (HIX.out _ _ _ ra7).mono ?_; rintro e_ w8 ⟨⟨A8, c8, rfl, rx8⟩, hb8⟩))
  have hb6_8 : Below w6.heap.size w6 w8 := bel_tr hb7 hb7.size hb8
  have kS8 := kS6.bel hb6_8
  have kL8 := kL6.bel hb6_8
  have hr8 := hr6.bel hb6_8
  have hB8 : Below q w w8 := hB6.trans (hb6_8.mono z6)
  have z8 : q ≤ w8.heap.size := by have := hb6_8.size; omega
  have y8 := kS8.lt
  have x8 := kL8.lt
  clear s0 s1 t0 t1
  have s0 := kS8.cell 0; have s1 := kS8.cell 1; simp only [List.getElem?_cons_zero, List.getElem?_cons_succ] at s0 s1
  have t0 := kL8.cell 0; have t1 := kL8.cell 1; simp only [List.getElem?_cons_zero, List.getElem?_cons_succ] at t0 t1
  have hSd : (∀ b o, b < w8.heap.size → w8.drew.cell? ⟨b, o, none⟩ = w8.cell? ⟨b, o, none⟩) ∧ Below w8.heap.size w8 w8.drew := kp (Below.refl _ _).drew
  refine wp_region_held (S := fun w' => (∀ b o, b < w8.heap.size → w'.cell? ⟨b, o, none⟩ = w8.cell? ⟨b, o, none⟩) ∧ Below w8.heap.size w8 w') (by kernel_rfl) ?_
  change wpAnyH _ _ _ _ _ _ _ _ w8.drew
  refine wpAnyH_take (i := 0) (v := ?_) rfl (by kernel_rfl) (by kernel_rfl) (by kernel_rfl) (fun _ _ _ h => h) (Or.inl ⟨by kernel_rfl, ?_⟩) (by assumption) ?_
  rotate_left 1
  · (intro w hSw; obtain ⟨hk1, hk2⟩ := hSw; go_simp <;> with_reducible rfl)
  simp only [Act.put, List.getElem_toArray, List.getElem_cons_zero, List.setIfInBounds_toArray, List.set_cons_zero, List.set_cons_succ]
  refine wpAnyH_take (i := 2) (v := ?_) rfl (by kernel_rfl) (by kernel_rfl) (by kernel_rfl) (fun _ _ _ h => h) (Or.inl ⟨by kernel_rfl, ?_⟩) (by assumption) ?_
  rotate_left 1
  · (intro w hSw; obtain ⟨hk1, hk2⟩ := hSw; go_simp <;> with_reducible rfl)
  simp only [Act.put, List.getElem_toArray, List.getElem_cons_zero, List.getElem_cons_succ, List.setIfInBounds_toArray, List.set_cons_zero, List.set_cons_succ]
  refine nextH (i := 1) (by kernel_rfl) rfl (fun K hK => ?_)
  go_simp
  refine (HCP.out _ (hr8.bel hSd.2)).mono ?_
  rintro e_ w9 ⟨⟨A9, c9, rfl, ra9, rc9⟩, hb9⟩
  have hS' := kp (bel_tr hSd.2 hSd.2.size hb9)
  try dsimp only
  refine hK _ _ hS' ?_
  clear hK K hSd
  have hSd := hS'
  clear hS'
  refine nextH (i := 3) (by kernel_rfl) rfl (fun K hK => ?_)
  go_simp
  refine (HSC.out _ _ _ ra9).mono ?_
  rintro e_ w10 ⟨rfl, hb10⟩
  have hS' := kp (bel_tr hSd.2 hSd.2.size hb10)
  try dsimp only
  refine hK _ _ hS' ?_
  clear hK K hSd
  have hSd := hS'
  clear hS'
  refine wpAnyH_take (i := 4) (v := ?_) rfl (by kernel_rfl) (by kernel_rfl) (by kernel_rfl) (fun _ _ _ h => h) (Or.inl ⟨by kernel_rfl, ?_⟩) (by assumption) ?_
  rotate_left 1
  · (intro w hSw; obtain ⟨hk1, hk2⟩ := hSw; go_simp <;> with_reducible rfl)
  simp only [Act.put, List.getElem_toArray, List.getElem_cons_zero, List.getElem_cons_succ, List.setIfInBounds_toArray, List.set_cons_zero, List.set_cons_succ]
  refine wpAnyH_take (i := 5) (v := ?_) rfl (by kernel_rfl) (by kernel_rfl) (by kernel_rfl) (fun _ _ _ h => h) (Or.inl ⟨by kernel_rfl, ?_⟩) (by assumption) ?_
  rotate_left 1
  · (intro w hSw; obtain ⟨hk1, hk2⟩ := hSw; go_simp <;> with_reducible rfl)
  simp only [Act.put, List.getElem_toArray, List.getElem_cons_zero, List.getElem_cons_succ, List.setIfInBounds_toArray, List.set_cons_zero, List.set_cons_succ]
  refine wpAnyH_take (i := 6) (v := ?_) rfl (by kernel_rfl) (by kernel_rfl) (by kernel_rfl) (fun _ _ _ h => h) (Or.inl ⟨by kernel_rfl, ?_⟩) (by assumption) ?_
  rotate_left 1
  · (intro w hSw; obtain ⟨hk1, hk2⟩ := hSw; go_simp <;> with_reducible rfl)
  simp only [Act.put, List.getElem_toArray, List.getElem_cons_zero, List.getElem_cons_succ, List.setIfInBounds_toArray, List.set_cons_zero, List.set_cons_succ]
  refine wpAnyH_take (i := 7) (v := ?_) rfl (by kernel_rfl) (by kernel_rfl) (by kernel_rfl) (fun _ _ _ h => h) (Or.inl ⟨by kernel_rfl, ?_⟩) (by assumption) ?_
  rotate_left 1
  · (intro w hSw; obtain ⟨hk1, hk2⟩ := hSw; go_simp <;> with_reducible rfl)
  simp only [Act.put, List.getElem_toArray, List.getElem_cons_zero, List.getElem_cons_succ, List.setIfInBounds_toArray, List.set_cons_zero, List.set_cons_succ]
  refine wpAnyH_take (i := 8) (v := ?_) rfl (by kernel_rfl) (by kernel_rfl) (by kernel_rfl) (fun _ _ _ h => h) (Or.inl ⟨by kernel_rfl, ?_⟩) (by assumption) ?_
  rotate_left 1
  · (intro w hSw; obtain ⟨hk1, hk2⟩ := hSw; go_simp <;> with_reducible rfl)
  simp only [Act.put, List.getElem_toArray, List.getElem_cons_zero, List.getElem_cons_succ, List.setIfInBounds_toArray, List.set_cons_zero, List.set_cons_succ]
  refine wpAnyH_done (by kernel_rfl) ?_ _
  have hb8_10 : Below w8.heap.size w8 w10 := hSd.2
  have kS10 := kS8.bel hb8_10
  have kL10 := kL8.bel hb8_10
  have hr10 := hr8.bel hb8_10
  have hB10 : Below q w w10 := hB8.trans (hb8_10.mono z8)
  have z10 : q ≤ w10.heap.size := by have := hb8_10.size; omega
  have y10 := kS10.lt
  have x10 := kL10.lt
  have rx10 := rx8.bel hSd.2
  clear s0 s1 t0 t1
  have s0 := kS10.cell 0; have s1 := kS10.cell 1; simp only [List.getElem?_cons_zero, List.getElem?_cons_succ] at s0 s1
  have t0 := kL10.cell 0; have t1 := kL10.cell 1; simp only [List.getElem?_cons_zero, List.getElem?_cons_succ] at t0 t1
  clear hSd hb1 hb2 hb3 hb4 hb5 hb6 hb7 hb8 hb9 hb10 ra3 ra5 ra7 ra9 rc3 rc5 rc7 rc9 rx8 kS0 kS1 kS2 kS4 kS6 kS8 kL0 kL1 kL2 kL4 kL6 kL8 hr0 hr1 hr2 hr4 hr6 hr8 hb0_1 hb1_2 hb2_4 hb4_6 hb6_8 hb8_10 y0 y1 y2 y4 y6 y8 x0 x1 x2 x4 x6 x8 z0 z1 z2 z4 z6 z8 hB0 hB1 hB2 hB4 hB6 hB8 HCP HFW HCK HCR HIX HSC
  go_upto_region 10 with (go_at_call 22; refine (HRC.out _ hr10).mono ?_; rintro e_ w11 ⟨rfl, hb11⟩)
  have hb10_11 : Below w10.heap.size w10 w11 := hb11
  have kS11 := kS10.bel hb10_11
  have kL11 := kL10.bel hb10_11
  have hr11 := hr10.bel hb10_11
  have hB11 : Below q w w11 := hB10.trans (hb10_11.mono z10)
  have z11 : q ≤ w11.heap.size := by have := hb10_11.size; omega
  have y11 := kS11.lt
  have x11 := kL11.lt
  have rx11 := rx10.bel hb11
  clear s0 s1 t0 t1
  have s0 := kS11.cell 0; have s1 := kS11.cell 1; simp only [List.getElem?_cons_zero, List.getElem?_cons_succ] at s0 s1
  have t0 := kL11.cell 0; have t1 := kL11.cell 1; simp only [List.getElem?_cons_zero, List.getElem?_cons_succ] at t0 t1
  go_upto_region 16 with (go_at_call 23; refine (HC2.out _ hr11).mono ?_; rintro e_ w12 ⟨rfl, hb12⟩)
  have hb11_12 : Below w11.heap.size w11 w12 := hb12
  have kS12 := kS11.bel hb11_12
  have kL12 := kL11.bel hb11_12
  have hr12 := hr11.bel hb11_12
  have hB12 : Below q w w12 := hB11.trans (hb11_12.mono z11)
  have z12 : q ≤ w12.heap.size := by have := hb11_12.size; omega
  have y12 := kS12.lt
  have x12 := kL12.lt
  have rx12 := rx11.bel hb12
  clear s0 s1 t0 t1
  have s0 := kS12.cell 0; have s1 := kS12.cell 1; simp only [List.getElem?_cons_zero, List.getElem?_cons_succ] at s0 s1
  have t0 := kL12.cell 0; have t1 := kL12.cell 1; simp only [List.getElem?_cons_zero, List.getElem?_cons_succ] at t0 t1
  clear hb11 hb12 kS10 kS11 kL10 kL11 hr10 hr11 hb10_11 hb11_12 hB10 hB11 HC2 HRC rx10 rx11
  go_upto_region 19 with (first
    | (go_at_call 24; refine (HFE.out _).mono ?_; rintro e_ w_ ⟨rfl, rfl⟩))
  go_wp2_with (first
    | (go_at_call 27; refine (HLE.out _).mono ?_; rintro e_ w15 ⟨rfl, hb15⟩; have kS15 := kS12.bel hb15; have kL15 := kL12.bel hb15; have hr15 := hr12.bel hb15; have hB15 : Below q w w15 := hB12.trans (hb15.mono z12); have z15 : q ≤ w15.heap.size := (by have := hb15.size; omega); clear s0 s1 t0 t1; have s0 := kS15.cell 0; have s1 := kS15.cell 1; simp only [List.getElem?_cons_zero, List.getElem?_cons_succ] at s0 s1; have t0 := kL15.cell 0; have t1 := kL15.cell 1; simp only [List.getElem?_cons_zero, List.getElem?_cons_succ] at t0 t1))
  go_ret
  exact ⟨rfl, by first | exact hB15 | (rw [hq]; exact hB15)⟩
set_option maxHeartbeats 8000000 in
theorem skiesLaw_ok01 (H f n d : Int) (A : Option Addr) (c : Nat) (l : List G) (w : World) (hr : Rd w A (gs l)) (hl : l.length ≤ 14) (g1 : -9223372036854775808 ≤ n) (g2 : n ≤ 9223372036854775807) (g3 : d ≤ 9223372036854775807) (he : (skyE H l).2 = 0) (hf : freqE f ≠ 0) (hd : launchE n d = 0) :
    Calls Try.prog 3 #[.agg #[.int .i64 H, .slice A l.length c], .int .i64 f, .agg #[.int .i64 n, .int .i64 d]] w fun r w' => r = .returned (.bool true) ∧ Below w.heap.size w w' := by
  obtain ⟨H0, H1, l0, l1, hok⟩ := skyE_zero he
  have HCP := hide (fun W (h : Rd W A (gs l)) => copySky_c H A c l W h (by omega))
  have HFW := hide (fun W => few_c H A c l W)
  rw [decide_eq_true (show (l.length : Int) ≤ 14 by omega)] at HFW
  have HRC := hide (fun W (h : Rd W A (gs l)) => refCheckSky_c H A c l W h (by omega))
  have hfst : (skyE H l).1 = (skyE H l).1 := rfl
  have HCK := hide (fun A' c' W (h : Rd W A' (gs l)) => checkSky_c H A' c' l W h (by omega))
  have HCR := hide (fun A' c' W (h : Rd W A' (gs l)) => criticalOf_c H A' c' l W h (by omega))
  rw [show critQ H l = ((rootN (grsQ l).toNat : Int), 0) by unfold critQ; rw [if_neg (by rw [he]; simp)]] at HCR
  have HC2 := hide (fun W (h : Rd W A (gs l)) => refCritical_c H A c l W h (by omega) hok)
  have e2 : ixsE H f l = freqE f := by unfold ixsE; rw [he]; exact firstE_01 _
  have HIX := hide (fun A' c' W (h : Rd W A' (gs l)) => indexesOf_c H f A' c' l W h (by omega))
  have HFE := hide (fun W => frequencyErr_c f W)
  have HLE := hide (fun W => refLaunchErr_c n d W g1 g2 g3)
  have e3 : secE H n d l = launchE n d := by unfold secE; rw [he]; exact firstE_01 _
  have HSC := hide (fun A' c' W (h : Rd W A' (gs l)) => secantOf_c H n d A' c' l W h (by omega) g1 g2 g3)
  rw [show ixsL H f l = [] by unfold ixsL; rw [if_neg (by rw [e2]; exact hf)], e2] at HIX
  generalize freqE f = ef at hf HFE HIX
  have e5 : (ef != 0) = true := by simpa using hf
  have e6 : (ef == 0) = false := by simpa using hf
  clear hf e2
  rw [show secQ H n d l = (min (rootN (grsQ l * d / (d - n)).toNat : Int) 3000, 0) by unfold secQ; rw [if_neg (by rw [e3, hd]; simp)]] at HSC
  rw [hd] at HLE
  have d01 := launchE_zero hd
  have HRS := hide (fun W (h : Rd W A (gs l)) => refSecant_c H n d A c l W h (by omega) hok d01.2.2.1 d01.2.2.2.1 d01.2.1)
  generalize min (rootN (grsQ l * d / (d - n)).toNat : Int) 3000 = sc at HSC HRS
  clear hd e3 d01
  rw [he] at HCK HRC
  generalize (skyE H l).1 = i at HCK HRC
  generalize (rootN (grsQ l).toNat : Int) = cr at HCR HC2
  dsimp only at HCR HSC
  clear he hfst hok
  obtain ⟨q, hq⟩ : ∃ q, w.heap.size = q := ⟨_, rfl⟩
  obtain ⟨q1, hq1⟩ : ∃ q1, q + 1 = q1 := ⟨_, rfl⟩
  obtain ⟨Wa, hWa⟩ : ∃ Wa, w.alloc (.cells #[.int .i64 H, .slice A l.length c] 24) = Wa := ⟨_, rfl⟩
  have ba : Below w.heap.size w Wa := by rw [← hWa]; exact alloc_bel _ _
  have sa : Wa.heap.size = q1 := by rw [← hWa, ← hq1, ← hq]; simp
  have ka : Blk Wa q 24 [.int .i64 H, .slice A l.length c] := by rw [← hWa, ← hq]; exact Blk.new w _ [_, _]
  obtain ⟨w0, hWb⟩ : ∃ w0, Wa.alloc (.cells #[.int .i64 n, .int .i64 d] 26) = w0 := ⟨_, rfl⟩
  have bb : Below Wa.heap.size Wa w0 := by rw [← hWb]; exact alloc_bel _ _
  have kL0 : Blk w0 q1 26 [.int .i64 n, .int .i64 d] := by rw [← hWb, ← sa]; exact Blk.new Wa _ [_, _]
  have hAB : (w.alloc (.cells #[.int .i64 H, .slice A l.length c] 24)).alloc (.cells #[.int .i64 n, .int .i64 d] 26) = w0 := by rw [hWa, hWb]
  have HW := hide hAB
  have kS0 := ka.bel bb
  have hr0 := (hr.bel ba).bel bb
  have hB0 : Below q w w0 := by
    rw [hq] at ba
    exact ba.trans (bb.mono (by omega))
  have z0 : q ≤ w0.heap.size := by have := kS0.lt; omega
  have y0 := kS0.lt
  have x0 := kL0.lt
  clear hAB hWa hWb ba bb ka sa
  have s0 := kS0.cell 0; have s1 := kS0.cell 1; simp only [List.getElem?_cons_zero, List.getElem?_cons_succ] at s0 s1
  have t0 := kL0.cell 0; have t1 := kL0.cell 1; simp only [List.getElem?_cons_zero, List.getElem?_cons_succ] at t0 t1
  go_enter Try.func3, Try.ntmps3
  go_upto_region 1 with fail
  try simp only [World.size_alloc, hq, hq1]
  rw [HW.out]
  go_upto_region 3 with (go_at_call 15; refine (awake_c _).mono ?_; rintro e_ w1 ⟨rfl, hb1⟩)
  have hb0_1 : Below w0.heap.size w0 w1 := hb1
  have kS1 := kS0.bel hb0_1
  have kL1 := kL0.bel hb0_1
  have hr1 := hr0.bel hb0_1
  have hB1 : Below q w w1 := hB0.trans (hb0_1.mono z0)
  have z1 : q ≤ w1.heap.size := by have := hb0_1.size; omega
  have y1 := kS1.lt
  have x1 := kL1.lt
  clear s0 s1 t0 t1
  have s0 := kS1.cell 0; have s1 := kS1.cell 1; simp only [List.getElem?_cons_zero, List.getElem?_cons_succ] at s0 s1
  have t0 := kL1.cell 0; have t1 := kL1.cell 1; simp only [List.getElem?_cons_zero, List.getElem?_cons_succ] at t0 t1
  go_upto_region 5 with (go_at_call 16; refine (HFW.out _).mono ?_; rintro e_ w2 ⟨rfl, hb2⟩)
  have hb1_2 : Below w1.heap.size w1 w2 := hb2
  have kS2 := kS1.bel hb1_2
  have kL2 := kL1.bel hb1_2
  have hr2 := hr1.bel hb1_2
  have hB2 : Below q w w2 := hB1.trans (hb1_2.mono z1)
  have z2 : q ≤ w2.heap.size := by have := hb1_2.size; omega
  have y2 := kS2.lt
  have x2 := kL2.lt
  clear s0 s1 t0 t1
  have s0 := kS2.cell 0; have s1 := kS2.cell 1; simp only [List.getElem?_cons_zero, List.getElem?_cons_succ] at s0 s1
  have t0 := kL2.cell 0; have t1 := kL2.cell 1; simp only [List.getElem?_cons_zero, List.getElem?_cons_succ] at t0 t1
  go_upto_region 6 with (first
    | (go_at_call 18; refine (HCP.out _ hr2).mono ?_; rintro e_ w3 ⟨⟨A3, c3, rfl, ra3, rc3⟩, hb3⟩)
    | (go_at_call 17; refine (HCK.out _ _ _ ra3).mono ?_; rintro e_ w4 ⟨rfl, hb4⟩))
  have hb2_4 : Below w2.heap.size w2 w4 := bel_tr hb3 hb3.size hb4
  have kS4 := kS2.bel hb2_4
  have kL4 := kL2.bel hb2_4
  have hr4 := hr2.bel hb2_4
  have hB4 : Below q w w4 := hB2.trans (hb2_4.mono z2)
  have z4 : q ≤ w4.heap.size := by have := hb2_4.size; omega
  have y4 := kS4.lt
  have x4 := kL4.lt
  clear s0 s1 t0 t1
  have s0 := kS4.cell 0; have s1 := kS4.cell 1; simp only [List.getElem?_cons_zero, List.getElem?_cons_succ] at s0 s1
  have t0 := kL4.cell 0; have t1 := kL4.cell 1; simp only [List.getElem?_cons_zero, List.getElem?_cons_succ] at t0 t1
  go_upto_region 7 with (first
    | (go_at_call 18; refine (HCP.out _ hr4).mono ?_; rintro e_ w5 ⟨⟨A5, c5, rfl, ra5, rc5⟩, hb5⟩)
    | (go_at_call 19; refine (HCR.out _ _ _ ra5).mono ?_; rintro e_ w6 ⟨rfl, hb6⟩))
  have hb4_6 : Below w4.heap.size w4 w6 := bel_tr hb5 hb5.size hb6
  have kS6 := kS4.bel hb4_6
  have kL6 := kL4.bel hb4_6
  have hr6 := hr4.bel hb4_6
  have hB6 : Below q w w6 := hB4.trans (hb4_6.mono z4)
  have z6 : q ≤ w6.heap.size := by have := hb4_6.size; omega
  have y6 := kS6.lt
  have x6 := kL6.lt
  clear s0 s1 t0 t1
  have s0 := kS6.cell 0; have s1 := kS6.cell 1; simp only [List.getElem?_cons_zero, List.getElem?_cons_succ] at s0 s1
  have t0 := kL6.cell 0; have t1 := kL6.cell 1; simp only [List.getElem?_cons_zero, List.getElem?_cons_succ] at t0 t1
  go_upto_region 8 with (first
    | (go_at_call 18; refine (HCP.out _ hr6).mono ?_; rintro e_ w7 ⟨⟨A7, c7, rfl, ra7, rc7⟩, hb7⟩)
    | (go_at_call 20; refine (HIX.out _ _ _ ra7).mono ?_; rintro e_ w8 ⟨⟨A8, c8, rfl, rx8⟩, hb8⟩))
  have hb6_8 : Below w6.heap.size w6 w8 := bel_tr hb7 hb7.size hb8
  have kS8 := kS6.bel hb6_8
  have kL8 := kL6.bel hb6_8
  have hr8 := hr6.bel hb6_8
  have hB8 : Below q w w8 := hB6.trans (hb6_8.mono z6)
  have z8 : q ≤ w8.heap.size := by have := hb6_8.size; omega
  have y8 := kS8.lt
  have x8 := kL8.lt
  clear s0 s1 t0 t1
  have s0 := kS8.cell 0; have s1 := kS8.cell 1; simp only [List.getElem?_cons_zero, List.getElem?_cons_succ] at s0 s1
  have t0 := kL8.cell 0; have t1 := kL8.cell 1; simp only [List.getElem?_cons_zero, List.getElem?_cons_succ] at t0 t1
  have hSd : (∀ b o, b < w8.heap.size → w8.drew.cell? ⟨b, o, none⟩ = w8.cell? ⟨b, o, none⟩) ∧ Below w8.heap.size w8 w8.drew := kp (Below.refl _ _).drew
  refine wp_region_held (S := fun w' => (∀ b o, b < w8.heap.size → w'.cell? ⟨b, o, none⟩ = w8.cell? ⟨b, o, none⟩) ∧ Below w8.heap.size w8 w') (by kernel_rfl) ?_
  change wpAnyH _ _ _ _ _ _ _ _ w8.drew
  refine wpAnyH_take (i := 0) (v := ?_) rfl (by kernel_rfl) (by kernel_rfl) (by kernel_rfl) (fun _ _ _ h => h) (Or.inl ⟨by kernel_rfl, ?_⟩) (by assumption) ?_
  rotate_left 1
  · (intro w hSw; obtain ⟨hk1, hk2⟩ := hSw; go_simp <;> with_reducible rfl)
  simp only [Act.put, List.getElem_toArray, List.getElem_cons_zero, List.setIfInBounds_toArray, List.set_cons_zero, List.set_cons_succ]
  refine wpAnyH_take (i := 2) (v := ?_) rfl (by kernel_rfl) (by kernel_rfl) (by kernel_rfl) (fun _ _ _ h => h) (Or.inl ⟨by kernel_rfl, ?_⟩) (by assumption) ?_
  rotate_left 1
  · (intro w hSw; obtain ⟨hk1, hk2⟩ := hSw; go_simp <;> with_reducible rfl)
  simp only [Act.put, List.getElem_toArray, List.getElem_cons_zero, List.getElem_cons_succ, List.setIfInBounds_toArray, List.set_cons_zero, List.set_cons_succ]
  refine nextH (i := 1) (by kernel_rfl) rfl (fun K hK => ?_)
  go_simp
  refine (HCP.out _ (hr8.bel hSd.2)).mono ?_
  rintro e_ w9 ⟨⟨A9, c9, rfl, ra9, rc9⟩, hb9⟩
  have hS' := kp (bel_tr hSd.2 hSd.2.size hb9)
  try dsimp only
  refine hK _ _ hS' ?_
  clear hK K hSd
  have hSd := hS'
  clear hS'
  refine nextH (i := 3) (by kernel_rfl) rfl (fun K hK => ?_)
  go_simp
  refine (HSC.out _ _ _ ra9).mono ?_
  rintro e_ w10 ⟨rfl, hb10⟩
  have hS' := kp (bel_tr hSd.2 hSd.2.size hb10)
  try dsimp only
  refine hK _ _ hS' ?_
  clear hK K hSd
  have hSd := hS'
  clear hS'
  refine wpAnyH_take (i := 4) (v := ?_) rfl (by kernel_rfl) (by kernel_rfl) (by kernel_rfl) (fun _ _ _ h => h) (Or.inl ⟨by kernel_rfl, ?_⟩) (by assumption) ?_
  rotate_left 1
  · (intro w hSw; obtain ⟨hk1, hk2⟩ := hSw; go_simp <;> with_reducible rfl)
  simp only [Act.put, List.getElem_toArray, List.getElem_cons_zero, List.getElem_cons_succ, List.setIfInBounds_toArray, List.set_cons_zero, List.set_cons_succ]
  refine wpAnyH_take (i := 5) (v := ?_) rfl (by kernel_rfl) (by kernel_rfl) (by kernel_rfl) (fun _ _ _ h => h) (Or.inl ⟨by kernel_rfl, ?_⟩) (by assumption) ?_
  rotate_left 1
  · (intro w hSw; obtain ⟨hk1, hk2⟩ := hSw; go_simp <;> with_reducible rfl)
  simp only [Act.put, List.getElem_toArray, List.getElem_cons_zero, List.getElem_cons_succ, List.setIfInBounds_toArray, List.set_cons_zero, List.set_cons_succ]
  refine wpAnyH_take (i := 6) (v := ?_) rfl (by kernel_rfl) (by kernel_rfl) (by kernel_rfl) (fun _ _ _ h => h) (Or.inl ⟨by kernel_rfl, ?_⟩) (by assumption) ?_
  rotate_left 1
  · (intro w hSw; obtain ⟨hk1, hk2⟩ := hSw; go_simp <;> with_reducible rfl)
  simp only [Act.put, List.getElem_toArray, List.getElem_cons_zero, List.getElem_cons_succ, List.setIfInBounds_toArray, List.set_cons_zero, List.set_cons_succ]
  refine wpAnyH_take (i := 7) (v := ?_) rfl (by kernel_rfl) (by kernel_rfl) (by kernel_rfl) (fun _ _ _ h => h) (Or.inl ⟨by kernel_rfl, ?_⟩) (by assumption) ?_
  rotate_left 1
  · (intro w hSw; obtain ⟨hk1, hk2⟩ := hSw; go_simp <;> with_reducible rfl)
  simp only [Act.put, List.getElem_toArray, List.getElem_cons_zero, List.getElem_cons_succ, List.setIfInBounds_toArray, List.set_cons_zero, List.set_cons_succ]
  refine wpAnyH_take (i := 8) (v := ?_) rfl (by kernel_rfl) (by kernel_rfl) (by kernel_rfl) (fun _ _ _ h => h) (Or.inl ⟨by kernel_rfl, ?_⟩) (by assumption) ?_
  rotate_left 1
  · (intro w hSw; obtain ⟨hk1, hk2⟩ := hSw; go_simp <;> with_reducible rfl)
  simp only [Act.put, List.getElem_toArray, List.getElem_cons_zero, List.getElem_cons_succ, List.setIfInBounds_toArray, List.set_cons_zero, List.set_cons_succ]
  refine wpAnyH_done (by kernel_rfl) ?_ _
  have hb8_10 : Below w8.heap.size w8 w10 := hSd.2
  have kS10 := kS8.bel hb8_10
  have kL10 := kL8.bel hb8_10
  have hr10 := hr8.bel hb8_10
  have hB10 : Below q w w10 := hB8.trans (hb8_10.mono z8)
  have z10 : q ≤ w10.heap.size := by have := hb8_10.size; omega
  have y10 := kS10.lt
  have x10 := kL10.lt
  have rx10 := rx8.bel hSd.2
  clear s0 s1 t0 t1
  have s0 := kS10.cell 0; have s1 := kS10.cell 1; simp only [List.getElem?_cons_zero, List.getElem?_cons_succ] at s0 s1
  have t0 := kL10.cell 0; have t1 := kL10.cell 1; simp only [List.getElem?_cons_zero, List.getElem?_cons_succ] at t0 t1
  clear hSd hb1 hb2 hb3 hb4 hb5 hb6 hb7 hb8 hb9 hb10 ra3 ra5 ra7 ra9 rc3 rc5 rc7 rc9 rx8 kS0 kS1 kS2 kS4 kS6 kS8 kL0 kL1 kL2 kL4 kL6 kL8 hr0 hr1 hr2 hr4 hr6 hr8 hb0_1 hb1_2 hb2_4 hb4_6 hb6_8 hb8_10 y0 y1 y2 y4 y6 y8 x0 x1 x2 x4 x6 x8 z0 z1 z2 z4 z6 z8 hB0 hB1 hB2 hB4 hB6 hB8 HCP HFW HCK HCR HIX HSC
  go_upto_region 10 with (go_at_call 22; refine (HRC.out _ hr10).mono ?_; rintro e_ w11 ⟨rfl, hb11⟩)
  have hb10_11 : Below w10.heap.size w10 w11 := hb11
  have kS11 := kS10.bel hb10_11
  have kL11 := kL10.bel hb10_11
  have hr11 := hr10.bel hb10_11
  have hB11 : Below q w w11 := hB10.trans (hb10_11.mono z10)
  have z11 : q ≤ w11.heap.size := by have := hb10_11.size; omega
  have y11 := kS11.lt
  have x11 := kL11.lt
  have rx11 := rx10.bel hb11
  clear s0 s1 t0 t1
  have s0 := kS11.cell 0; have s1 := kS11.cell 1; simp only [List.getElem?_cons_zero, List.getElem?_cons_succ] at s0 s1
  have t0 := kL11.cell 0; have t1 := kL11.cell 1; simp only [List.getElem?_cons_zero, List.getElem?_cons_succ] at t0 t1
  go_upto_region 16 with (go_at_call 23; refine (HC2.out _ hr11).mono ?_; rintro e_ w12 ⟨rfl, hb12⟩)
  have hb11_12 : Below w11.heap.size w11 w12 := hb12
  have kS12 := kS11.bel hb11_12
  have kL12 := kL11.bel hb11_12
  have hr12 := hr11.bel hb11_12
  have hB12 : Below q w w12 := hB11.trans (hb11_12.mono z11)
  have z12 : q ≤ w12.heap.size := by have := hb11_12.size; omega
  have y12 := kS12.lt
  have x12 := kL12.lt
  have rx12 := rx11.bel hb12
  clear s0 s1 t0 t1
  have s0 := kS12.cell 0; have s1 := kS12.cell 1; simp only [List.getElem?_cons_zero, List.getElem?_cons_succ] at s0 s1
  have t0 := kL12.cell 0; have t1 := kL12.cell 1; simp only [List.getElem?_cons_zero, List.getElem?_cons_succ] at t0 t1
  clear hb11 hb12 kS10 kS11 kL10 kL11 hr10 hr11 hb10_11 hb11_12 hB10 hB11 HC2 HRC rx10 rx11
  go_upto_region 19 with (first
    | (go_at_call 24; refine (HFE.out _).mono ?_; rintro e_ w_ ⟨rfl, rfl⟩))
  go_wp2_with (first
    | (go_at_call 27; refine (HLE.out _).mono ?_; rintro e_ w15 ⟨rfl, hb15⟩; have kS15 := kS12.bel hb15; have kL15 := kL12.bel hb15; have hr15 := hr12.bel hb15; have hB15 : Below q w w15 := hB12.trans (hb15.mono z12); have z15 : q ≤ w15.heap.size := (by have := hb15.size; omega); clear s0 s1 t0 t1; have s0 := kS15.cell 0; have s1 := kS15.cell 1; simp only [List.getElem?_cons_zero, List.getElem?_cons_succ] at s0 s1; have t0 := kL15.cell 0; have t1 := kL15.cell 1; simp only [List.getElem?_cons_zero, List.getElem?_cons_succ] at t0 t1)
    | (go_at_call 28; refine (HRS.out _ hr15).mono ?_; rintro e_ w16 ⟨rfl, hb16⟩; have hB16 : Below q w w16 := hB15.trans (hb16.mono z15)))
  go_ret
  exact ⟨rfl, by first | exact hB16 | (rw [hq]; exact hB16)⟩
set_option maxHeartbeats 8000000 in
theorem skiesLaw_ok10 (H f n d : Int) (A : Option Addr) (c : Nat) (l : List G) (w : World) (hr : Rd w A (gs l)) (hl : l.length ≤ 14) (g1 : -9223372036854775808 ≤ n) (g2 : n ≤ 9223372036854775807) (g3 : d ≤ 9223372036854775807) (he : (skyE H l).2 = 0) (hf : freqE f = 0) (hd : launchE n d ≠ 0) :
    Calls Try.prog 3 #[.agg #[.int .i64 H, .slice A l.length c], .int .i64 f, .agg #[.int .i64 n, .int .i64 d]] w fun r w' => r = .returned (.bool true) ∧ Below w.heap.size w w' := by
  obtain ⟨H0, H1, l0, l1, hok⟩ := skyE_zero he
  have HCP := hide (fun W (h : Rd W A (gs l)) => copySky_c H A c l W h (by omega))
  have HFW := hide (fun W => few_c H A c l W)
  rw [decide_eq_true (show (l.length : Int) ≤ 14 by omega)] at HFW
  have HRC := hide (fun W (h : Rd W A (gs l)) => refCheckSky_c H A c l W h (by omega))
  have hfst : (skyE H l).1 = (skyE H l).1 := rfl
  have HCK := hide (fun A' c' W (h : Rd W A' (gs l)) => checkSky_c H A' c' l W h (by omega))
  have HCR := hide (fun A' c' W (h : Rd W A' (gs l)) => criticalOf_c H A' c' l W h (by omega))
  rw [show critQ H l = ((rootN (grsQ l).toNat : Int), 0) by unfold critQ; rw [if_neg (by rw [he]; simp)]] at HCR
  have HC2 := hide (fun W (h : Rd W A (gs l)) => refCritical_c H A c l W h (by omega) hok)
  have e2 : ixsE H f l = freqE f := by unfold ixsE; rw [he]; exact firstE_01 _
  have HIX := hide (fun A' c' W (h : Rd W A' (gs l)) => indexesOf_c H f A' c' l W h (by omega))
  have HFE := hide (fun W => frequencyErr_c f W)
  have HLE := hide (fun W => refLaunchErr_c n d W g1 g2 g3)
  have e3 : secE H n d l = launchE n d := by unfold secE; rw [he]; exact firstE_01 _
  have HSC := hide (fun A' c' W (h : Rd W A' (gs l)) => secantOf_c H n d A' c' l W h (by omega) g1 g2 g3)
  rw [show ixsL H f l = idxL f l by unfold ixsL; rw [if_pos (by rw [e2]; exact hf)], e2, hf, idxL_len] at HIX
  rw [hf] at HFE
  have f01 := freqE_zero hf
  have HRX := hide (fun W (h : Rd W A (gs l)) => refIndexes_c H f A c l W h (by omega) hok f01.1 f01.2)
  have HFR := hide (fun A1 c1 A2 c2 W (h1 : Rd W A1 (gs (idxL f l))) (h2 : Rd W A2 (gs (idxL f l))) => fracs_c (idxL f l) (idxL f l) A1 A2 c1 c2 W h1 h2 (by rw [idxL_len]; omega))
  rw [decide_eq_true rfl, idxL_len] at HFR
  clear hf e2 f01
  rw [show secQ H n d l = (0, launchE n d) by unfold secQ; rw [if_pos (by rw [e3]; exact hd), e3]] at HSC
  generalize launchE n d = el at hd HLE HSC
  have e7 : (el != 0) = true := by simpa using hd
  clear hd e3
  rw [he] at HCK HRC
  generalize (skyE H l).1 = i at HCK HRC
  generalize (rootN (grsQ l).toNat : Int) = cr at HCR HC2
  dsimp only at HCR HSC
  clear he hfst hok
  obtain ⟨q, hq⟩ : ∃ q, w.heap.size = q := ⟨_, rfl⟩
  obtain ⟨q1, hq1⟩ : ∃ q1, q + 1 = q1 := ⟨_, rfl⟩
  obtain ⟨Wa, hWa⟩ : ∃ Wa, w.alloc (.cells #[.int .i64 H, .slice A l.length c] 24) = Wa := ⟨_, rfl⟩
  have ba : Below w.heap.size w Wa := by rw [← hWa]; exact alloc_bel _ _
  have sa : Wa.heap.size = q1 := by rw [← hWa, ← hq1, ← hq]; simp
  have ka : Blk Wa q 24 [.int .i64 H, .slice A l.length c] := by rw [← hWa, ← hq]; exact Blk.new w _ [_, _]
  obtain ⟨w0, hWb⟩ : ∃ w0, Wa.alloc (.cells #[.int .i64 n, .int .i64 d] 26) = w0 := ⟨_, rfl⟩
  have bb : Below Wa.heap.size Wa w0 := by rw [← hWb]; exact alloc_bel _ _
  have kL0 : Blk w0 q1 26 [.int .i64 n, .int .i64 d] := by rw [← hWb, ← sa]; exact Blk.new Wa _ [_, _]
  have hAB : (w.alloc (.cells #[.int .i64 H, .slice A l.length c] 24)).alloc (.cells #[.int .i64 n, .int .i64 d] 26) = w0 := by rw [hWa, hWb]
  have HW := hide hAB
  have kS0 := ka.bel bb
  have hr0 := (hr.bel ba).bel bb
  have hB0 : Below q w w0 := by
    rw [hq] at ba
    exact ba.trans (bb.mono (by omega))
  have z0 : q ≤ w0.heap.size := by have := kS0.lt; omega
  have y0 := kS0.lt
  have x0 := kL0.lt
  clear hAB hWa hWb ba bb ka sa
  have s0 := kS0.cell 0; have s1 := kS0.cell 1; simp only [List.getElem?_cons_zero, List.getElem?_cons_succ] at s0 s1
  have t0 := kL0.cell 0; have t1 := kL0.cell 1; simp only [List.getElem?_cons_zero, List.getElem?_cons_succ] at t0 t1
  go_enter Try.func3, Try.ntmps3
  go_upto_region 1 with fail
  try simp only [World.size_alloc, hq, hq1]
  rw [HW.out]
  go_upto_region 3 with (go_at_call 15; refine (awake_c _).mono ?_; rintro e_ w1 ⟨rfl, hb1⟩)
  have hb0_1 : Below w0.heap.size w0 w1 := hb1
  have kS1 := kS0.bel hb0_1
  have kL1 := kL0.bel hb0_1
  have hr1 := hr0.bel hb0_1
  have hB1 : Below q w w1 := hB0.trans (hb0_1.mono z0)
  have z1 : q ≤ w1.heap.size := by have := hb0_1.size; omega
  have y1 := kS1.lt
  have x1 := kL1.lt
  clear s0 s1 t0 t1
  have s0 := kS1.cell 0; have s1 := kS1.cell 1; simp only [List.getElem?_cons_zero, List.getElem?_cons_succ] at s0 s1
  have t0 := kL1.cell 0; have t1 := kL1.cell 1; simp only [List.getElem?_cons_zero, List.getElem?_cons_succ] at t0 t1
  go_upto_region 5 with (go_at_call 16; refine (HFW.out _).mono ?_; rintro e_ w2 ⟨rfl, hb2⟩)
  have hb1_2 : Below w1.heap.size w1 w2 := hb2
  have kS2 := kS1.bel hb1_2
  have kL2 := kL1.bel hb1_2
  have hr2 := hr1.bel hb1_2
  have hB2 : Below q w w2 := hB1.trans (hb1_2.mono z1)
  have z2 : q ≤ w2.heap.size := by have := hb1_2.size; omega
  have y2 := kS2.lt
  have x2 := kL2.lt
  clear s0 s1 t0 t1
  have s0 := kS2.cell 0; have s1 := kS2.cell 1; simp only [List.getElem?_cons_zero, List.getElem?_cons_succ] at s0 s1
  have t0 := kL2.cell 0; have t1 := kL2.cell 1; simp only [List.getElem?_cons_zero, List.getElem?_cons_succ] at t0 t1
  go_upto_region 6 with (first
    | (go_at_call 18; refine (HCP.out _ hr2).mono ?_; rintro e_ w3 ⟨⟨A3, c3, rfl, ra3, rc3⟩, hb3⟩)
    | (go_at_call 17; refine (HCK.out _ _ _ ra3).mono ?_; rintro e_ w4 ⟨rfl, hb4⟩))
  have hb2_4 : Below w2.heap.size w2 w4 := bel_tr hb3 hb3.size hb4
  have kS4 := kS2.bel hb2_4
  have kL4 := kL2.bel hb2_4
  have hr4 := hr2.bel hb2_4
  have hB4 : Below q w w4 := hB2.trans (hb2_4.mono z2)
  have z4 : q ≤ w4.heap.size := by have := hb2_4.size; omega
  have y4 := kS4.lt
  have x4 := kL4.lt
  clear s0 s1 t0 t1
  have s0 := kS4.cell 0; have s1 := kS4.cell 1; simp only [List.getElem?_cons_zero, List.getElem?_cons_succ] at s0 s1
  have t0 := kL4.cell 0; have t1 := kL4.cell 1; simp only [List.getElem?_cons_zero, List.getElem?_cons_succ] at t0 t1
  go_upto_region 7 with (first
    | (go_at_call 18; refine (HCP.out _ hr4).mono ?_; rintro e_ w5 ⟨⟨A5, c5, rfl, ra5, rc5⟩, hb5⟩)
    | (go_at_call 19; refine (HCR.out _ _ _ ra5).mono ?_; rintro e_ w6 ⟨rfl, hb6⟩))
  have hb4_6 : Below w4.heap.size w4 w6 := bel_tr hb5 hb5.size hb6
  have kS6 := kS4.bel hb4_6
  have kL6 := kL4.bel hb4_6
  have hr6 := hr4.bel hb4_6
  have hB6 : Below q w w6 := hB4.trans (hb4_6.mono z4)
  have z6 : q ≤ w6.heap.size := by have := hb4_6.size; omega
  have y6 := kS6.lt
  have x6 := kL6.lt
  clear s0 s1 t0 t1
  have s0 := kS6.cell 0; have s1 := kS6.cell 1; simp only [List.getElem?_cons_zero, List.getElem?_cons_succ] at s0 s1
  have t0 := kL6.cell 0; have t1 := kL6.cell 1; simp only [List.getElem?_cons_zero, List.getElem?_cons_succ] at t0 t1
  go_upto_region 8 with (first
    | (go_at_call 18; refine (HCP.out _ hr6).mono ?_; rintro e_ w7 ⟨⟨A7, c7, rfl, ra7, rc7⟩, hb7⟩)
    | (go_at_call 20; refine (HIX.out _ _ _ ra7).mono ?_; rintro e_ w8 ⟨⟨A8, c8, rfl, rx8⟩, hb8⟩))
  have hb6_8 : Below w6.heap.size w6 w8 := bel_tr hb7 hb7.size hb8
  have kS8 := kS6.bel hb6_8
  have kL8 := kL6.bel hb6_8
  have hr8 := hr6.bel hb6_8
  have hB8 : Below q w w8 := hB6.trans (hb6_8.mono z6)
  have z8 : q ≤ w8.heap.size := by have := hb6_8.size; omega
  have y8 := kS8.lt
  have x8 := kL8.lt
  clear s0 s1 t0 t1
  have s0 := kS8.cell 0; have s1 := kS8.cell 1; simp only [List.getElem?_cons_zero, List.getElem?_cons_succ] at s0 s1
  have t0 := kL8.cell 0; have t1 := kL8.cell 1; simp only [List.getElem?_cons_zero, List.getElem?_cons_succ] at t0 t1
  have hSd : (∀ b o, b < w8.heap.size → w8.drew.cell? ⟨b, o, none⟩ = w8.cell? ⟨b, o, none⟩) ∧ Below w8.heap.size w8 w8.drew := kp (Below.refl _ _).drew
  refine wp_region_held (S := fun w' => (∀ b o, b < w8.heap.size → w'.cell? ⟨b, o, none⟩ = w8.cell? ⟨b, o, none⟩) ∧ Below w8.heap.size w8 w') (by kernel_rfl) ?_
  change wpAnyH _ _ _ _ _ _ _ _ w8.drew
  refine wpAnyH_take (i := 0) (v := ?_) rfl (by kernel_rfl) (by kernel_rfl) (by kernel_rfl) (fun _ _ _ h => h) (Or.inl ⟨by kernel_rfl, ?_⟩) (by assumption) ?_
  rotate_left 1
  · (intro w hSw; obtain ⟨hk1, hk2⟩ := hSw; go_simp <;> with_reducible rfl)
  simp only [Act.put, List.getElem_toArray, List.getElem_cons_zero, List.setIfInBounds_toArray, List.set_cons_zero, List.set_cons_succ]
  refine wpAnyH_take (i := 2) (v := ?_) rfl (by kernel_rfl) (by kernel_rfl) (by kernel_rfl) (fun _ _ _ h => h) (Or.inl ⟨by kernel_rfl, ?_⟩) (by assumption) ?_
  rotate_left 1
  · (intro w hSw; obtain ⟨hk1, hk2⟩ := hSw; go_simp <;> with_reducible rfl)
  simp only [Act.put, List.getElem_toArray, List.getElem_cons_zero, List.getElem_cons_succ, List.setIfInBounds_toArray, List.set_cons_zero, List.set_cons_succ]
  refine nextH (i := 1) (by kernel_rfl) rfl (fun K hK => ?_)
  go_simp
  refine (HCP.out _ (hr8.bel hSd.2)).mono ?_
  rintro e_ w9 ⟨⟨A9, c9, rfl, ra9, rc9⟩, hb9⟩
  have hS' := kp (bel_tr hSd.2 hSd.2.size hb9)
  try dsimp only
  refine hK _ _ hS' ?_
  clear hK K hSd
  have hSd := hS'
  clear hS'
  refine nextH (i := 3) (by kernel_rfl) rfl (fun K hK => ?_)
  go_simp
  refine (HSC.out _ _ _ ra9).mono ?_
  rintro e_ w10 ⟨rfl, hb10⟩
  have hS' := kp (bel_tr hSd.2 hSd.2.size hb10)
  try dsimp only
  refine hK _ _ hS' ?_
  clear hK K hSd
  have hSd := hS'
  clear hS'
  refine wpAnyH_take (i := 4) (v := ?_) rfl (by kernel_rfl) (by kernel_rfl) (by kernel_rfl) (fun _ _ _ h => h) (Or.inl ⟨by kernel_rfl, ?_⟩) (by assumption) ?_
  rotate_left 1
  · (intro w hSw; obtain ⟨hk1, hk2⟩ := hSw; go_simp <;> with_reducible rfl)
  simp only [Act.put, List.getElem_toArray, List.getElem_cons_zero, List.getElem_cons_succ, List.setIfInBounds_toArray, List.set_cons_zero, List.set_cons_succ]
  refine wpAnyH_take (i := 5) (v := ?_) rfl (by kernel_rfl) (by kernel_rfl) (by kernel_rfl) (fun _ _ _ h => h) (Or.inl ⟨by kernel_rfl, ?_⟩) (by assumption) ?_
  rotate_left 1
  · (intro w hSw; obtain ⟨hk1, hk2⟩ := hSw; go_simp <;> with_reducible rfl)
  simp only [Act.put, List.getElem_toArray, List.getElem_cons_zero, List.getElem_cons_succ, List.setIfInBounds_toArray, List.set_cons_zero, List.set_cons_succ]
  refine wpAnyH_take (i := 6) (v := ?_) rfl (by kernel_rfl) (by kernel_rfl) (by kernel_rfl) (fun _ _ _ h => h) (Or.inl ⟨by kernel_rfl, ?_⟩) (by assumption) ?_
  rotate_left 1
  · (intro w hSw; obtain ⟨hk1, hk2⟩ := hSw; go_simp <;> with_reducible rfl)
  simp only [Act.put, List.getElem_toArray, List.getElem_cons_zero, List.getElem_cons_succ, List.setIfInBounds_toArray, List.set_cons_zero, List.set_cons_succ]
  refine wpAnyH_take (i := 7) (v := ?_) rfl (by kernel_rfl) (by kernel_rfl) (by kernel_rfl) (fun _ _ _ h => h) (Or.inl ⟨by kernel_rfl, ?_⟩) (by assumption) ?_
  rotate_left 1
  · (intro w hSw; obtain ⟨hk1, hk2⟩ := hSw; go_simp <;> with_reducible rfl)
  simp only [Act.put, List.getElem_toArray, List.getElem_cons_zero, List.getElem_cons_succ, List.setIfInBounds_toArray, List.set_cons_zero, List.set_cons_succ]
  refine wpAnyH_take (i := 8) (v := ?_) rfl (by kernel_rfl) (by kernel_rfl) (by kernel_rfl) (fun _ _ _ h => h) (Or.inl ⟨by kernel_rfl, ?_⟩) (by assumption) ?_
  rotate_left 1
  · (intro w hSw; obtain ⟨hk1, hk2⟩ := hSw; go_simp <;> with_reducible rfl)
  simp only [Act.put, List.getElem_toArray, List.getElem_cons_zero, List.getElem_cons_succ, List.setIfInBounds_toArray, List.set_cons_zero, List.set_cons_succ]
  refine wpAnyH_done (by kernel_rfl) ?_ _
  have hb8_10 : Below w8.heap.size w8 w10 := hSd.2
  have kS10 := kS8.bel hb8_10
  have kL10 := kL8.bel hb8_10
  have hr10 := hr8.bel hb8_10
  have hB10 : Below q w w10 := hB8.trans (hb8_10.mono z8)
  have z10 : q ≤ w10.heap.size := by have := hb8_10.size; omega
  have y10 := kS10.lt
  have x10 := kL10.lt
  have rx10 := rx8.bel hSd.2
  clear s0 s1 t0 t1
  have s0 := kS10.cell 0; have s1 := kS10.cell 1; simp only [List.getElem?_cons_zero, List.getElem?_cons_succ] at s0 s1
  have t0 := kL10.cell 0; have t1 := kL10.cell 1; simp only [List.getElem?_cons_zero, List.getElem?_cons_succ] at t0 t1
  clear hSd hb1 hb2 hb3 hb4 hb5 hb6 hb7 hb8 hb9 hb10 ra3 ra5 ra7 ra9 rc3 rc5 rc7 rc9 rx8 kS0 kS1 kS2 kS4 kS6 kS8 kL0 kL1 kL2 kL4 kL6 kL8 hr0 hr1 hr2 hr4 hr6 hr8 hb0_1 hb1_2 hb2_4 hb4_6 hb6_8 hb8_10 y0 y1 y2 y4 y6 y8 x0 x1 x2 x4 x6 x8 z0 z1 z2 z4 z6 z8 hB0 hB1 hB2 hB4 hB6 hB8 HCP HFW HCK HCR HIX HSC
  go_upto_region 10 with (go_at_call 22; refine (HRC.out _ hr10).mono ?_; rintro e_ w11 ⟨rfl, hb11⟩)
  have hb10_11 : Below w10.heap.size w10 w11 := hb11
  have kS11 := kS10.bel hb10_11
  have kL11 := kL10.bel hb10_11
  have hr11 := hr10.bel hb10_11
  have hB11 : Below q w w11 := hB10.trans (hb10_11.mono z10)
  have z11 : q ≤ w11.heap.size := by have := hb10_11.size; omega
  have y11 := kS11.lt
  have x11 := kL11.lt
  have rx11 := rx10.bel hb11
  clear s0 s1 t0 t1
  have s0 := kS11.cell 0; have s1 := kS11.cell 1; simp only [List.getElem?_cons_zero, List.getElem?_cons_succ] at s0 s1
  have t0 := kL11.cell 0; have t1 := kL11.cell 1; simp only [List.getElem?_cons_zero, List.getElem?_cons_succ] at t0 t1
  go_upto_region 16 with (go_at_call 23; refine (HC2.out _ hr11).mono ?_; rintro e_ w12 ⟨rfl, hb12⟩)
  have hb11_12 : Below w11.heap.size w11 w12 := hb12
  have kS12 := kS11.bel hb11_12
  have kL12 := kL11.bel hb11_12
  have hr12 := hr11.bel hb11_12
  have hB12 : Below q w w12 := hB11.trans (hb11_12.mono z11)
  have z12 : q ≤ w12.heap.size := by have := hb11_12.size; omega
  have y12 := kS12.lt
  have x12 := kL12.lt
  have rx12 := rx11.bel hb12
  clear s0 s1 t0 t1
  have s0 := kS12.cell 0; have s1 := kS12.cell 1; simp only [List.getElem?_cons_zero, List.getElem?_cons_succ] at s0 s1
  have t0 := kL12.cell 0; have t1 := kL12.cell 1; simp only [List.getElem?_cons_zero, List.getElem?_cons_succ] at t0 t1
  clear hb11 hb12 kS10 kS11 kL10 kL11 hr10 hr11 hb10_11 hb11_12 hB10 hB11 HC2 HRC rx10 rx11
  go_upto_region 19 with (first
    | (go_at_call 24; refine (HFE.out _).mono ?_; rintro e_ w_ ⟨rfl, rfl⟩)
    | (go_at_call 26; refine (HRX.out _ hr12).mono ?_; rintro e_ w13 ⟨⟨A13, c13, rfl, ra13⟩, hb13⟩)
    | (go_at_call 25; refine (HFR.out _ _ _ _ _ (rx12.bel hb13) ra13).mono ?_; rintro e_ w14 ⟨rfl, hb14⟩))
  have hb12_14 : Below w12.heap.size w12 w14 := bel_tr hb13 hb13.size hb14
  have kS14 := kS12.bel hb12_14
  have kL14 := kL12.bel hb12_14
  have hr14 := hr12.bel hb12_14
  have hB14 : Below q w w14 := hB12.trans (hb12_14.mono z12)
  have z14 : q ≤ w14.heap.size := by have := hb12_14.size; omega
  have y14 := kS14.lt
  have x14 := kL14.lt
  clear s0 s1 t0 t1
  have s0 := kS14.cell 0; have s1 := kS14.cell 1; simp only [List.getElem?_cons_zero, List.getElem?_cons_succ] at s0 s1
  have t0 := kL14.cell 0; have t1 := kL14.cell 1; simp only [List.getElem?_cons_zero, List.getElem?_cons_succ] at t0 t1
  go_wp2_with (first
    | (go_at_call 27; refine (HLE.out _).mono ?_; rintro e_ w15 ⟨rfl, hb15⟩; have kS15 := kS14.bel hb15; have kL15 := kL14.bel hb15; have hr15 := hr14.bel hb15; have hB15 : Below q w w15 := hB14.trans (hb15.mono z14); have z15 : q ≤ w15.heap.size := (by have := hb15.size; omega); clear s0 s1 t0 t1; have s0 := kS15.cell 0; have s1 := kS15.cell 1; simp only [List.getElem?_cons_zero, List.getElem?_cons_succ] at s0 s1; have t0 := kL15.cell 0; have t1 := kL15.cell 1; simp only [List.getElem?_cons_zero, List.getElem?_cons_succ] at t0 t1))
  go_ret
  exact ⟨rfl, by first | exact hB15 | (rw [hq]; exact hB15)⟩
set_option maxHeartbeats 8000000 in
theorem skiesLaw_ok11 (H f n d : Int) (A : Option Addr) (c : Nat) (l : List G) (w : World) (hr : Rd w A (gs l)) (hl : l.length ≤ 14) (g1 : -9223372036854775808 ≤ n) (g2 : n ≤ 9223372036854775807) (g3 : d ≤ 9223372036854775807) (he : (skyE H l).2 = 0) (hf : freqE f = 0) (hd : launchE n d = 0) :
    Calls Try.prog 3 #[.agg #[.int .i64 H, .slice A l.length c], .int .i64 f, .agg #[.int .i64 n, .int .i64 d]] w fun r w' => r = .returned (.bool true) ∧ Below w.heap.size w w' := by
  obtain ⟨H0, H1, l0, l1, hok⟩ := skyE_zero he
  have HCP := hide (fun W (h : Rd W A (gs l)) => copySky_c H A c l W h (by omega))
  have HFW := hide (fun W => few_c H A c l W)
  rw [decide_eq_true (show (l.length : Int) ≤ 14 by omega)] at HFW
  have HRC := hide (fun W (h : Rd W A (gs l)) => refCheckSky_c H A c l W h (by omega))
  have hfst : (skyE H l).1 = (skyE H l).1 := rfl
  have HCK := hide (fun A' c' W (h : Rd W A' (gs l)) => checkSky_c H A' c' l W h (by omega))
  have HCR := hide (fun A' c' W (h : Rd W A' (gs l)) => criticalOf_c H A' c' l W h (by omega))
  rw [show critQ H l = ((rootN (grsQ l).toNat : Int), 0) by unfold critQ; rw [if_neg (by rw [he]; simp)]] at HCR
  have HC2 := hide (fun W (h : Rd W A (gs l)) => refCritical_c H A c l W h (by omega) hok)
  have e2 : ixsE H f l = freqE f := by unfold ixsE; rw [he]; exact firstE_01 _
  have HIX := hide (fun A' c' W (h : Rd W A' (gs l)) => indexesOf_c H f A' c' l W h (by omega))
  have HFE := hide (fun W => frequencyErr_c f W)
  have HLE := hide (fun W => refLaunchErr_c n d W g1 g2 g3)
  have e3 : secE H n d l = launchE n d := by unfold secE; rw [he]; exact firstE_01 _
  have HSC := hide (fun A' c' W (h : Rd W A' (gs l)) => secantOf_c H n d A' c' l W h (by omega) g1 g2 g3)
  rw [show ixsL H f l = idxL f l by unfold ixsL; rw [if_pos (by rw [e2]; exact hf)], e2, hf, idxL_len] at HIX
  rw [hf] at HFE
  have f01 := freqE_zero hf
  have HRX := hide (fun W (h : Rd W A (gs l)) => refIndexes_c H f A c l W h (by omega) hok f01.1 f01.2)
  have HFR := hide (fun A1 c1 A2 c2 W (h1 : Rd W A1 (gs (idxL f l))) (h2 : Rd W A2 (gs (idxL f l))) => fracs_c (idxL f l) (idxL f l) A1 A2 c1 c2 W h1 h2 (by rw [idxL_len]; omega))
  rw [decide_eq_true rfl, idxL_len] at HFR
  clear hf e2 f01
  rw [show secQ H n d l = (min (rootN (grsQ l * d / (d - n)).toNat : Int) 3000, 0) by unfold secQ; rw [if_neg (by rw [e3, hd]; simp)]] at HSC
  rw [hd] at HLE
  have d01 := launchE_zero hd
  have HRS := hide (fun W (h : Rd W A (gs l)) => refSecant_c H n d A c l W h (by omega) hok d01.2.2.1 d01.2.2.2.1 d01.2.1)
  generalize min (rootN (grsQ l * d / (d - n)).toNat : Int) 3000 = sc at HSC HRS
  clear hd e3 d01
  rw [he] at HCK HRC
  generalize (skyE H l).1 = i at HCK HRC
  generalize (rootN (grsQ l).toNat : Int) = cr at HCR HC2
  dsimp only at HCR HSC
  clear he hfst hok
  obtain ⟨q, hq⟩ : ∃ q, w.heap.size = q := ⟨_, rfl⟩
  obtain ⟨q1, hq1⟩ : ∃ q1, q + 1 = q1 := ⟨_, rfl⟩
  obtain ⟨Wa, hWa⟩ : ∃ Wa, w.alloc (.cells #[.int .i64 H, .slice A l.length c] 24) = Wa := ⟨_, rfl⟩
  have ba : Below w.heap.size w Wa := by rw [← hWa]; exact alloc_bel _ _
  have sa : Wa.heap.size = q1 := by rw [← hWa, ← hq1, ← hq]; simp
  have ka : Blk Wa q 24 [.int .i64 H, .slice A l.length c] := by rw [← hWa, ← hq]; exact Blk.new w _ [_, _]
  obtain ⟨w0, hWb⟩ : ∃ w0, Wa.alloc (.cells #[.int .i64 n, .int .i64 d] 26) = w0 := ⟨_, rfl⟩
  have bb : Below Wa.heap.size Wa w0 := by rw [← hWb]; exact alloc_bel _ _
  have kL0 : Blk w0 q1 26 [.int .i64 n, .int .i64 d] := by rw [← hWb, ← sa]; exact Blk.new Wa _ [_, _]
  have hAB : (w.alloc (.cells #[.int .i64 H, .slice A l.length c] 24)).alloc (.cells #[.int .i64 n, .int .i64 d] 26) = w0 := by rw [hWa, hWb]
  have HW := hide hAB
  have kS0 := ka.bel bb
  have hr0 := (hr.bel ba).bel bb
  have hB0 : Below q w w0 := by
    rw [hq] at ba
    exact ba.trans (bb.mono (by omega))
  have z0 : q ≤ w0.heap.size := by have := kS0.lt; omega
  have y0 := kS0.lt
  have x0 := kL0.lt
  clear hAB hWa hWb ba bb ka sa
  have s0 := kS0.cell 0; have s1 := kS0.cell 1; simp only [List.getElem?_cons_zero, List.getElem?_cons_succ] at s0 s1
  have t0 := kL0.cell 0; have t1 := kL0.cell 1; simp only [List.getElem?_cons_zero, List.getElem?_cons_succ] at t0 t1
  go_enter Try.func3, Try.ntmps3
  go_upto_region 1 with fail
  try simp only [World.size_alloc, hq, hq1]
  rw [HW.out]
  go_upto_region 3 with (go_at_call 15; refine (awake_c _).mono ?_; rintro e_ w1 ⟨rfl, hb1⟩)
  have hb0_1 : Below w0.heap.size w0 w1 := hb1
  have kS1 := kS0.bel hb0_1
  have kL1 := kL0.bel hb0_1
  have hr1 := hr0.bel hb0_1
  have hB1 : Below q w w1 := hB0.trans (hb0_1.mono z0)
  have z1 : q ≤ w1.heap.size := by have := hb0_1.size; omega
  have y1 := kS1.lt
  have x1 := kL1.lt
  clear s0 s1 t0 t1
  have s0 := kS1.cell 0; have s1 := kS1.cell 1; simp only [List.getElem?_cons_zero, List.getElem?_cons_succ] at s0 s1
  have t0 := kL1.cell 0; have t1 := kL1.cell 1; simp only [List.getElem?_cons_zero, List.getElem?_cons_succ] at t0 t1
  go_upto_region 5 with (go_at_call 16; refine (HFW.out _).mono ?_; rintro e_ w2 ⟨rfl, hb2⟩)
  have hb1_2 : Below w1.heap.size w1 w2 := hb2
  have kS2 := kS1.bel hb1_2
  have kL2 := kL1.bel hb1_2
  have hr2 := hr1.bel hb1_2
  have hB2 : Below q w w2 := hB1.trans (hb1_2.mono z1)
  have z2 : q ≤ w2.heap.size := by have := hb1_2.size; omega
  have y2 := kS2.lt
  have x2 := kL2.lt
  clear s0 s1 t0 t1
  have s0 := kS2.cell 0; have s1 := kS2.cell 1; simp only [List.getElem?_cons_zero, List.getElem?_cons_succ] at s0 s1
  have t0 := kL2.cell 0; have t1 := kL2.cell 1; simp only [List.getElem?_cons_zero, List.getElem?_cons_succ] at t0 t1
  go_upto_region 6 with (first
    | (go_at_call 18; refine (HCP.out _ hr2).mono ?_; rintro e_ w3 ⟨⟨A3, c3, rfl, ra3, rc3⟩, hb3⟩)
    | (go_at_call 17; refine (HCK.out _ _ _ ra3).mono ?_; rintro e_ w4 ⟨rfl, hb4⟩))
  have hb2_4 : Below w2.heap.size w2 w4 := bel_tr hb3 hb3.size hb4
  have kS4 := kS2.bel hb2_4
  have kL4 := kL2.bel hb2_4
  have hr4 := hr2.bel hb2_4
  have hB4 : Below q w w4 := hB2.trans (hb2_4.mono z2)
  have z4 : q ≤ w4.heap.size := by have := hb2_4.size; omega
  have y4 := kS4.lt
  have x4 := kL4.lt
  clear s0 s1 t0 t1
  have s0 := kS4.cell 0; have s1 := kS4.cell 1; simp only [List.getElem?_cons_zero, List.getElem?_cons_succ] at s0 s1
  have t0 := kL4.cell 0; have t1 := kL4.cell 1; simp only [List.getElem?_cons_zero, List.getElem?_cons_succ] at t0 t1
  go_upto_region 7 with (first
    | (go_at_call 18; refine (HCP.out _ hr4).mono ?_; rintro e_ w5 ⟨⟨A5, c5, rfl, ra5, rc5⟩, hb5⟩)
    | (go_at_call 19; refine (HCR.out _ _ _ ra5).mono ?_; rintro e_ w6 ⟨rfl, hb6⟩))
  have hb4_6 : Below w4.heap.size w4 w6 := bel_tr hb5 hb5.size hb6
  have kS6 := kS4.bel hb4_6
  have kL6 := kL4.bel hb4_6
  have hr6 := hr4.bel hb4_6
  have hB6 : Below q w w6 := hB4.trans (hb4_6.mono z4)
  have z6 : q ≤ w6.heap.size := by have := hb4_6.size; omega
  have y6 := kS6.lt
  have x6 := kL6.lt
  clear s0 s1 t0 t1
  have s0 := kS6.cell 0; have s1 := kS6.cell 1; simp only [List.getElem?_cons_zero, List.getElem?_cons_succ] at s0 s1
  have t0 := kL6.cell 0; have t1 := kL6.cell 1; simp only [List.getElem?_cons_zero, List.getElem?_cons_succ] at t0 t1
  go_upto_region 8 with (first
    | (go_at_call 18; refine (HCP.out _ hr6).mono ?_; rintro e_ w7 ⟨⟨A7, c7, rfl, ra7, rc7⟩, hb7⟩)
    | (go_at_call 20; refine (HIX.out _ _ _ ra7).mono ?_; rintro e_ w8 ⟨⟨A8, c8, rfl, rx8⟩, hb8⟩))
  have hb6_8 : Below w6.heap.size w6 w8 := bel_tr hb7 hb7.size hb8
  have kS8 := kS6.bel hb6_8
  have kL8 := kL6.bel hb6_8
  have hr8 := hr6.bel hb6_8
  have hB8 : Below q w w8 := hB6.trans (hb6_8.mono z6)
  have z8 : q ≤ w8.heap.size := by have := hb6_8.size; omega
  have y8 := kS8.lt
  have x8 := kL8.lt
  clear s0 s1 t0 t1
  have s0 := kS8.cell 0; have s1 := kS8.cell 1; simp only [List.getElem?_cons_zero, List.getElem?_cons_succ] at s0 s1
  have t0 := kL8.cell 0; have t1 := kL8.cell 1; simp only [List.getElem?_cons_zero, List.getElem?_cons_succ] at t0 t1
  have hSd : (∀ b o, b < w8.heap.size → w8.drew.cell? ⟨b, o, none⟩ = w8.cell? ⟨b, o, none⟩) ∧ Below w8.heap.size w8 w8.drew := kp (Below.refl _ _).drew
  refine wp_region_held (S := fun w' => (∀ b o, b < w8.heap.size → w'.cell? ⟨b, o, none⟩ = w8.cell? ⟨b, o, none⟩) ∧ Below w8.heap.size w8 w') (by kernel_rfl) ?_
  change wpAnyH _ _ _ _ _ _ _ _ w8.drew
  refine wpAnyH_take (i := 0) (v := ?_) rfl (by kernel_rfl) (by kernel_rfl) (by kernel_rfl) (fun _ _ _ h => h) (Or.inl ⟨by kernel_rfl, ?_⟩) (by assumption) ?_
  rotate_left 1
  · (intro w hSw; obtain ⟨hk1, hk2⟩ := hSw; go_simp <;> with_reducible rfl)
  simp only [Act.put, List.getElem_toArray, List.getElem_cons_zero, List.setIfInBounds_toArray, List.set_cons_zero, List.set_cons_succ]
  refine wpAnyH_take (i := 2) (v := ?_) rfl (by kernel_rfl) (by kernel_rfl) (by kernel_rfl) (fun _ _ _ h => h) (Or.inl ⟨by kernel_rfl, ?_⟩) (by assumption) ?_
  rotate_left 1
  · (intro w hSw; obtain ⟨hk1, hk2⟩ := hSw; go_simp <;> with_reducible rfl)
  simp only [Act.put, List.getElem_toArray, List.getElem_cons_zero, List.getElem_cons_succ, List.setIfInBounds_toArray, List.set_cons_zero, List.set_cons_succ]
  refine nextH (i := 1) (by kernel_rfl) rfl (fun K hK => ?_)
  go_simp
  refine (HCP.out _ (hr8.bel hSd.2)).mono ?_
  rintro e_ w9 ⟨⟨A9, c9, rfl, ra9, rc9⟩, hb9⟩
  have hS' := kp (bel_tr hSd.2 hSd.2.size hb9)
  try dsimp only
  refine hK _ _ hS' ?_
  clear hK K hSd
  have hSd := hS'
  clear hS'
  refine nextH (i := 3) (by kernel_rfl) rfl (fun K hK => ?_)
  go_simp
  refine (HSC.out _ _ _ ra9).mono ?_
  rintro e_ w10 ⟨rfl, hb10⟩
  have hS' := kp (bel_tr hSd.2 hSd.2.size hb10)
  try dsimp only
  refine hK _ _ hS' ?_
  clear hK K hSd
  have hSd := hS'
  clear hS'
  refine wpAnyH_take (i := 4) (v := ?_) rfl (by kernel_rfl) (by kernel_rfl) (by kernel_rfl) (fun _ _ _ h => h) (Or.inl ⟨by kernel_rfl, ?_⟩) (by assumption) ?_
  rotate_left 1
  · (intro w hSw; obtain ⟨hk1, hk2⟩ := hSw; go_simp <;> with_reducible rfl)
  simp only [Act.put, List.getElem_toArray, List.getElem_cons_zero, List.getElem_cons_succ, List.setIfInBounds_toArray, List.set_cons_zero, List.set_cons_succ]
  refine wpAnyH_take (i := 5) (v := ?_) rfl (by kernel_rfl) (by kernel_rfl) (by kernel_rfl) (fun _ _ _ h => h) (Or.inl ⟨by kernel_rfl, ?_⟩) (by assumption) ?_
  rotate_left 1
  · (intro w hSw; obtain ⟨hk1, hk2⟩ := hSw; go_simp <;> with_reducible rfl)
  simp only [Act.put, List.getElem_toArray, List.getElem_cons_zero, List.getElem_cons_succ, List.setIfInBounds_toArray, List.set_cons_zero, List.set_cons_succ]
  refine wpAnyH_take (i := 6) (v := ?_) rfl (by kernel_rfl) (by kernel_rfl) (by kernel_rfl) (fun _ _ _ h => h) (Or.inl ⟨by kernel_rfl, ?_⟩) (by assumption) ?_
  rotate_left 1
  · (intro w hSw; obtain ⟨hk1, hk2⟩ := hSw; go_simp <;> with_reducible rfl)
  simp only [Act.put, List.getElem_toArray, List.getElem_cons_zero, List.getElem_cons_succ, List.setIfInBounds_toArray, List.set_cons_zero, List.set_cons_succ]
  refine wpAnyH_take (i := 7) (v := ?_) rfl (by kernel_rfl) (by kernel_rfl) (by kernel_rfl) (fun _ _ _ h => h) (Or.inl ⟨by kernel_rfl, ?_⟩) (by assumption) ?_
  rotate_left 1
  · (intro w hSw; obtain ⟨hk1, hk2⟩ := hSw; go_simp <;> with_reducible rfl)
  simp only [Act.put, List.getElem_toArray, List.getElem_cons_zero, List.getElem_cons_succ, List.setIfInBounds_toArray, List.set_cons_zero, List.set_cons_succ]
  refine wpAnyH_take (i := 8) (v := ?_) rfl (by kernel_rfl) (by kernel_rfl) (by kernel_rfl) (fun _ _ _ h => h) (Or.inl ⟨by kernel_rfl, ?_⟩) (by assumption) ?_
  rotate_left 1
  · (intro w hSw; obtain ⟨hk1, hk2⟩ := hSw; go_simp <;> with_reducible rfl)
  simp only [Act.put, List.getElem_toArray, List.getElem_cons_zero, List.getElem_cons_succ, List.setIfInBounds_toArray, List.set_cons_zero, List.set_cons_succ]
  refine wpAnyH_done (by kernel_rfl) ?_ _
  have hb8_10 : Below w8.heap.size w8 w10 := hSd.2
  have kS10 := kS8.bel hb8_10
  have kL10 := kL8.bel hb8_10
  have hr10 := hr8.bel hb8_10
  have hB10 : Below q w w10 := hB8.trans (hb8_10.mono z8)
  have z10 : q ≤ w10.heap.size := by have := hb8_10.size; omega
  have y10 := kS10.lt
  have x10 := kL10.lt
  have rx10 := rx8.bel hSd.2
  clear s0 s1 t0 t1
  have s0 := kS10.cell 0; have s1 := kS10.cell 1; simp only [List.getElem?_cons_zero, List.getElem?_cons_succ] at s0 s1
  have t0 := kL10.cell 0; have t1 := kL10.cell 1; simp only [List.getElem?_cons_zero, List.getElem?_cons_succ] at t0 t1
  clear hSd hb1 hb2 hb3 hb4 hb5 hb6 hb7 hb8 hb9 hb10 ra3 ra5 ra7 ra9 rc3 rc5 rc7 rc9 rx8 kS0 kS1 kS2 kS4 kS6 kS8 kL0 kL1 kL2 kL4 kL6 kL8 hr0 hr1 hr2 hr4 hr6 hr8 hb0_1 hb1_2 hb2_4 hb4_6 hb6_8 hb8_10 y0 y1 y2 y4 y6 y8 x0 x1 x2 x4 x6 x8 z0 z1 z2 z4 z6 z8 hB0 hB1 hB2 hB4 hB6 hB8 HCP HFW HCK HCR HIX HSC
  go_upto_region 10 with (go_at_call 22; refine (HRC.out _ hr10).mono ?_; rintro e_ w11 ⟨rfl, hb11⟩)
  have hb10_11 : Below w10.heap.size w10 w11 := hb11
  have kS11 := kS10.bel hb10_11
  have kL11 := kL10.bel hb10_11
  have hr11 := hr10.bel hb10_11
  have hB11 : Below q w w11 := hB10.trans (hb10_11.mono z10)
  have z11 : q ≤ w11.heap.size := by have := hb10_11.size; omega
  have y11 := kS11.lt
  have x11 := kL11.lt
  have rx11 := rx10.bel hb11
  clear s0 s1 t0 t1
  have s0 := kS11.cell 0; have s1 := kS11.cell 1; simp only [List.getElem?_cons_zero, List.getElem?_cons_succ] at s0 s1
  have t0 := kL11.cell 0; have t1 := kL11.cell 1; simp only [List.getElem?_cons_zero, List.getElem?_cons_succ] at t0 t1
  go_upto_region 16 with (go_at_call 23; refine (HC2.out _ hr11).mono ?_; rintro e_ w12 ⟨rfl, hb12⟩)
  have hb11_12 : Below w11.heap.size w11 w12 := hb12
  have kS12 := kS11.bel hb11_12
  have kL12 := kL11.bel hb11_12
  have hr12 := hr11.bel hb11_12
  have hB12 : Below q w w12 := hB11.trans (hb11_12.mono z11)
  have z12 : q ≤ w12.heap.size := by have := hb11_12.size; omega
  have y12 := kS12.lt
  have x12 := kL12.lt
  have rx12 := rx11.bel hb12
  clear s0 s1 t0 t1
  have s0 := kS12.cell 0; have s1 := kS12.cell 1; simp only [List.getElem?_cons_zero, List.getElem?_cons_succ] at s0 s1
  have t0 := kL12.cell 0; have t1 := kL12.cell 1; simp only [List.getElem?_cons_zero, List.getElem?_cons_succ] at t0 t1
  clear hb11 hb12 kS10 kS11 kL10 kL11 hr10 hr11 hb10_11 hb11_12 hB10 hB11 HC2 HRC rx10 rx11
  go_upto_region 19 with (first
    | (go_at_call 24; refine (HFE.out _).mono ?_; rintro e_ w_ ⟨rfl, rfl⟩)
    | (go_at_call 26; refine (HRX.out _ hr12).mono ?_; rintro e_ w13 ⟨⟨A13, c13, rfl, ra13⟩, hb13⟩)
    | (go_at_call 25; refine (HFR.out _ _ _ _ _ (rx12.bel hb13) ra13).mono ?_; rintro e_ w14 ⟨rfl, hb14⟩))
  have hb12_14 : Below w12.heap.size w12 w14 := bel_tr hb13 hb13.size hb14
  have kS14 := kS12.bel hb12_14
  have kL14 := kL12.bel hb12_14
  have hr14 := hr12.bel hb12_14
  have hB14 : Below q w w14 := hB12.trans (hb12_14.mono z12)
  have z14 : q ≤ w14.heap.size := by have := hb12_14.size; omega
  have y14 := kS14.lt
  have x14 := kL14.lt
  clear s0 s1 t0 t1
  have s0 := kS14.cell 0; have s1 := kS14.cell 1; simp only [List.getElem?_cons_zero, List.getElem?_cons_succ] at s0 s1
  have t0 := kL14.cell 0; have t1 := kL14.cell 1; simp only [List.getElem?_cons_zero, List.getElem?_cons_succ] at t0 t1
  go_wp2_with (first
    | (go_at_call 27; refine (HLE.out _).mono ?_; rintro e_ w15 ⟨rfl, hb15⟩; have kS15 := kS14.bel hb15; have kL15 := kL14.bel hb15; have hr15 := hr14.bel hb15; have hB15 : Below q w w15 := hB14.trans (hb15.mono z14); have z15 : q ≤ w15.heap.size := (by have := hb15.size; omega); clear s0 s1 t0 t1; have s0 := kS15.cell 0; have s1 := kS15.cell 1; simp only [List.getElem?_cons_zero, List.getElem?_cons_succ] at s0 s1; have t0 := kL15.cell 0; have t1 := kL15.cell 1; simp only [List.getElem?_cons_zero, List.getElem?_cons_succ] at t0 t1)
    | (go_at_call 28; refine (HRS.out _ hr15).mono ?_; rintro e_ w16 ⟨rfl, hb16⟩; have hB16 : Below q w w16 := hB15.trans (hb16.mono z15)))
  go_ret
  exact ⟨rfl, by first | exact hB16 | (rw [hq]; exact hB16)⟩
theorem skiesLaw_few (H f n d : Int) (A : Option Addr) (c : Nat) (l : List G) (w : World) (hr : Rd w A (gs l)) (hl : l.length ≤ 14) (g1 : -9223372036854775808 ≤ n) (g2 : n ≤ 9223372036854775807) (g3 : d ≤ 9223372036854775807) :
    Calls Try.prog 3 #[.agg #[.int .i64 H, .slice A l.length c], .int .i64 f, .agg #[.int .i64 n, .int .i64 d]] w fun r w' => r = .returned (.bool true) ∧ Below w.heap.size w w' := by
  by_cases he : (skyE H l).2 = 0
  · by_cases hf : freqE f = 0
    · by_cases hd : launchE n d = 0
      · exact skiesLaw_ok11 H f n d A c l w hr hl g1 g2 g3 he hf hd
      · exact skiesLaw_ok10 H f n d A c l w hr hl g1 g2 g3 he hf hd
    · by_cases hd : launchE n d = 0
      · exact skiesLaw_ok01 H f n d A c l w hr hl g1 g2 g3 he hf hd
      · exact skiesLaw_ok00 H f n d A c l w hr hl g1 g2 g3 he hf hd
  · exact skiesLaw_bad H f n d A c l w hr hl g1 g2 g3 he
theorem skiesLaw_c (H f n d : Int) (A : Option Addr) (c : Nat) (l : List G) (w : World) (hr : Rd w A (gs l)) (hm : l.length ≤ maxLen) (g1 : -9223372036854775808 ≤ n) (g2 : n ≤ 9223372036854775807) (g3 : d ≤ 9223372036854775807) :
    Calls Try.prog 3 #[.agg #[.int .i64 H, .slice A l.length c], .int .i64 f, .agg #[.int .i64 n, .int .i64 d]] w fun r w' => r = .returned (.bool true) ∧ Below w.heap.size w w' := by
  by_cases hl : l.length ≤ 14
  · exact skiesLaw_few H f n d A c l w hr hl g1 g2 g3
  · have HFW := hide (fun W => few_c H A c l W)
    rw [decide_eq_false (show ¬ (l.length : Int) ≤ 14 by omega)] at HFW
    obtain ⟨q, hq⟩ : ∃ q, w.heap.size = q := ⟨_, rfl⟩
    obtain ⟨q1, hq1⟩ : ∃ q1, q + 1 = q1 := ⟨_, rfl⟩
    obtain ⟨Wa, hWa⟩ : ∃ Wa, w.alloc (.cells #[.int .i64 H, .slice A l.length c] 24) = Wa := ⟨_, rfl⟩
    have ba : Below w.heap.size w Wa := by rw [← hWa]; exact alloc_bel _ _
    have sa : Wa.heap.size = q1 := by rw [← hWa, ← hq1, ← hq]; simp
    have ka : Blk Wa q 24 [.int .i64 H, .slice A l.length c] := by rw [← hWa, ← hq]; exact Blk.new w _ [_, _]
    obtain ⟨w0, hWb⟩ : ∃ w0, Wa.alloc (.cells #[.int .i64 n, .int .i64 d] 26) = w0 := ⟨_, rfl⟩
    have bb : Below Wa.heap.size Wa w0 := by rw [← hWb]; exact alloc_bel _ _
    have kL0 : Blk w0 q1 26 [.int .i64 n, .int .i64 d] := by rw [← hWb, ← sa]; exact Blk.new Wa _ [_, _]
    have hAB : (w.alloc (.cells #[.int .i64 H, .slice A l.length c] 24)).alloc (.cells #[.int .i64 n, .int .i64 d] 26) = w0 := by rw [hWa, hWb]
    have HW := hide hAB
    have kS0 := ka.bel bb
    have hr0 := (hr.bel ba).bel bb
    have hB0 : Below q w w0 := by
      rw [hq] at ba
      exact ba.trans (bb.mono (by omega))
    have z0 : q ≤ w0.heap.size := by have := kS0.lt; omega
    have y0 := kS0.lt
    have x0 := kL0.lt
    clear hAB hWa hWb ba bb ka sa
    have s0 := kS0.cell 0; have s1 := kS0.cell 1; simp only [List.getElem?_cons_zero, List.getElem?_cons_succ] at s0 s1
    have t0 := kL0.cell 0; have t1 := kL0.cell 1; simp only [List.getElem?_cons_zero, List.getElem?_cons_succ] at t0 t1
    go_enter Try.func3, Try.ntmps3
    go_upto_region 1 with fail
    try simp only [World.size_alloc, hq, hq1]
    rw [HW.out]
    go_wp2_with (first
      | (go_at_call 15; refine (awake_c _).mono ?_; rintro e_ w1 ⟨rfl, hb1⟩; have kS1 := kS0.bel hb1; have hB1 : Below q w w1 := hB0.trans (hb1.mono z0); have z1 : q ≤ w1.heap.size := (by have := hb1.size; omega); clear s0 s1 t0 t1; have s0 := kS1.cell 0; have s1 := kS1.cell 1; simp only [List.getElem?_cons_zero, List.getElem?_cons_succ] at s0 s1)
      | (go_at_call 16; refine (HFW.out _).mono ?_; rintro e_ w2 ⟨rfl, hb2⟩; have hB2 : Below q w w2 := hB1.trans (hb2.mono z1)))
    go_ret
    exact ⟨rfl, by first | exact hB2 | (rw [hq]; exact hB2)⟩
end Go.Proofs.Ytkcjiejdjdcbeaa
