/- Law: heights. -/
import Derived.Test.YtgnhkjfdicdcmaaG4
namespace Go.Proofs.Ytgnhkjfdicdcmaa
open Go.RowKit
set_option maxRecDepth 100000

theorem refl_pro {base f : Int} {l : List G} (h : (proE base l).2 ≠ 0) : reflR base l f = (0, 0, (proE base l).2) ∧ virtR base l f = ((0, 0), (proE base l).2) := by
  have e : firstE [(proE base l).2, freqE f] = (proE base l).2 := by simp [firstE, h]
  unfold reflR virtR
  rw [e, if_neg h, if_neg h]
  exact ⟨rfl, rfl⟩
theorem refl_freq {base f : Int} {l : List G} (h : (proE base l).2 = 0) (h2 : freqE f ≠ 0) : reflR base l f = (0, 0, freqE f) ∧ virtR base l f = ((0, 0), freqE f) := by
  have e : firstE [(proE base l).2, freqE f] = freqE f := by simp [firstE, h, h2]
  unfold reflR virtR
  rw [e, if_neg h2, if_neg h2]
  exact ⟨rfl, rfl⟩
theorem refl_out {base f : Int} {l : List G} (h : (proE base l).2 = 0) (h2 : freqE f = 0) (h3 : passN l f = l.length) : reflR base l f = (0, 0, 21) ∧ virtR base l f = ((0, 0), 21) := by
  have e : firstE [(proE base l).2, freqE f] = 0 := by simp [firstE, h, h2]
  unfold reflR virtR
  rw [e, if_pos rfl, if_pos rfl, if_pos h3, if_pos h3]
  exact ⟨rfl, rfl⟩

set_option maxHeartbeats 4000000 in
theorem heights_out (base f : Int) (A : Option Addr) (c : Nat) (l : List G) (w : World) (hr : Rd w A (gs l)) (hmx : l.length ≤ maxLen) (hn : l.length ≤ 14 → ¬ ((proE base l).2 = 0 ∧ freqE f = 0 ∧ passN l f ≠ l.length)) :
    Calls Try.prog 8 #[.agg #[.int .i64 base, .slice A l.length c], .int .i64 f] w fun r w' => r = .returned (.bool true) ∧ Below w.heap.size w w' := by
  obtain ⟨W0, hW0⟩ : ∃ W0, w.alloc (.cells #[.int .i64 base, .slice A l.length c] 24) = W0 := ⟨_, rfl⟩
  have hX0 : Blk W0 w.heap.size 24 [.int .i64 base, .slice A l.length c] := by rw [← hW0]; exact Blk.new w _ [_, _]
  have hB0 : Below w.heap.size w W0 := by rw [← hW0]; exact alloc_bel w _
  have hr0 := hr.bel hB0
  have HW := hide hW0
  clear hW0 hr
  have c0 := hX0.cell 0; have c1 := hX0.cell 1; simp only [List.getElem?_cons_zero, List.getElem?_cons_succ] at c0 c1
  have z0 := hX0.lt
  have HFew := hide (fun W => few_c base A c l W hmx)
  by_cases h14 : l.length ≤ 14
  · rw [decide_eq_true h14] at HFew
    have hl : l.length ≤ 1000 := by omega
    clear hmx
    have HRA := hide (fun A c W h => reflectedAt_c base f A c l W h hl)
    have HVA := hide (fun A c W h => virtualAt_c base f A c l W h hl)
    have HPE := hide (fun W h => refErr_c base A c l W h hl)
    have HFE := hide (fun W => frequencyErr_c f W)
    by_cases h1 : (proE base l).2 = 0
    · by_cases h2 : freqE f = 0
      · have hP := proE_zero h1
        obtain ⟨f0, f1⟩ := freqE_zero.1 h2
        have HRR := hide (fun W h => refReflected_c base f A c l W h hP f0 f1)
        by_cases h3 : passN l f = l.length
        · obtain ⟨x1, x2⟩ := refl_out h1 h2 h3
          rw [x1] at HRA
          rw [x2] at HVA
          unfold rangeV at HVA
          rw [h1] at HPE
          rw [h2] at HFE
          rw [if_pos h3] at HRR
          clear x1 x2 h1 h2 h3 hP f0 f1 hn
          go_enter Try.func8, Try.ntmps8
          go_upto_region 1 with fail
          rw [HW.out]
          go_upto_region 5 with (first
            | (go_at_call 15; refine (awake_c _).mono ?_; rintro e w1 ⟨rfl, hb1⟩; have hX1 := hX0.bel hb1; have k0 := hX1.cell 0; have k1 := hX1.cell 1; simp only [List.getElem?_cons_zero, List.getElem?_cons_succ] at k0 k1; have zk := hX1.lt)
            | (go_at_call 16; refine (HFew.out _).mono ?_; rintro e w2 ⟨rfl, hb2⟩))
          have hb02 := tr hb1 hb2 hb1.size
          have hX2 := hX1.bel hb2
          have hr2 := hr0.bel hb02
          clear c0 c1 z0 k0 k1 zk hX1 hb1 hb2 hX0 hr0
          have d0 := hX2.cell 0; have d1 := hX2.cell 1; simp only [List.getElem?_cons_zero, List.getElem?_cons_succ] at d0 d1
          have zd := hX2.lt
          go_upto_region 6 with (first
            | (go_at_call 18; refine (copy_c base A c l _ hr2 hl).mono ?_; rintro e w3 ⟨⟨A3, q3, rfl, hr3⟩, hb3⟩)
            | (go_at_call 42; refine (HRA.out A3 q3 _ hr3).mono ?_; rintro e w4 ⟨rfl, hb4⟩))
          have hb24 := tr hb3 hb4 hb3.size
          have hX4 := hX2.bel hb24
          have hr4 := hr2.bel hb24
          have hb04 := tr hb02 hb24 hb02.size
          clear d0 d1 zd hX2 hr2 hr3 hb3 hb4 hb24 hb02
          have d0 := hX4.cell 0; have d1 := hX4.cell 1; simp only [List.getElem?_cons_zero, List.getElem?_cons_succ] at d0 d1
          have zd := hX4.lt
          go_upto_region 7 with (first
            | (go_at_call 18; refine (copy_c base A c l _ hr4 hl).mono ?_; rintro e w5 ⟨⟨A5, q5, rfl, hr5⟩, hb5⟩)
            | (go_at_call 43; refine (HVA.out A5 q5 _ hr5).mono ?_; rintro e w6 ⟨rfl, hb6⟩))
          have hb46 := tr hb5 hb6 hb5.size
          obtain ⟨W7, hW7⟩ : ∃ W, w6.alloc (.cells #[.int .i64 0, .int .i64 0] 54) = W := ⟨_, rfl⟩
          have hb47 : Below w4.heap.size w4 W7 := by rw [← hW7]; exact bel_alloc hb46 hb46.size _
          have hP7 : Blk W7 w6.heap.size 54 [.int .i64 0, .int .i64 0] := by rw [← hW7]; exact Blk.new w6 _ [_, _]
          have hX7 := hX4.bel hb47
          have hr7 := hr4.bel hb47
          have hb07 := tr hb04 hb47 hb04.size
          rw [hW7]
          clear hW7 d0 d1 zd hX4 hr4 hr5 hb5 hb6 hb46 hb47 hb04
          have d0 := hX7.cell 0; have d1 := hX7.cell 1; simp only [List.getElem?_cons_zero, List.getElem?_cons_succ] at d0 d1
          have zd := hX7.lt
          go_upto_region 8 with (first
            | (go_at_call 30; refine (HPE.out _ hr7).mono ?_; rintro e w8 ⟨rfl, hb8⟩))
          have hX8 := hX7.bel hb8
          have hP8 := hP7.bel hb8
          have hr8 := hr7.bel hb8
          have hb08 := tr hb07 hb8 hb07.size
          clear d0 d1 zd hX7 hP7 hr7 hb8 hb07
          have d0 := hX8.cell 0; have d1 := hX8.cell 1; simp only [List.getElem?_cons_zero, List.getElem?_cons_succ] at d0 d1
          have g0 := hP8.cell 0; have g1 := hP8.cell 1; simp only [List.getElem?_cons_zero, List.getElem?_cons_succ] at g0 g1
          have zd := hX8.lt
          have zg := hP8.lt
          go_wp2_with (first
            | (go_at_call 39; refine (HFE.out _).mono ?_; rintro e_ w_ ⟨rfl, rfl⟩)
            | (go_at_call 44; refine (HRR.out _ hr8).mono ?_; rintro e w9 ⟨rfl, hb9⟩; have hP9 := hP8.bel hb9; have m0 := hP9.cell 0; have m1 := hP9.cell 1; simp only [List.getElem?_cons_zero, List.getElem?_cons_succ] at m0 m1; have zm := hP9.lt))
          go_ret
          exact ⟨rfl, tr hB0 (tr hb08 hb9 hb08.size) hB0.size⟩
        · exact absurd ⟨h1, h2, h3⟩ (hn h14)
      · obtain ⟨x1, x2⟩ := refl_freq h1 h2
        have e1 : (freqE f == 0) = false := by simpa using h2
        have e2 : (freqE f != 0) = true := by simpa using h2
        rw [x1] at HRA
        rw [x2] at HVA
        unfold rangeV at HVA
        rw [h1] at HPE
        clear x1 x2 h1 h2 hn
        generalize freqE f = F at HRA HVA HFE e1 e2
        go_enter Try.func8, Try.ntmps8
        go_upto_region 1 with fail
        rw [HW.out]
        go_upto_region 5 with (first
          | (go_at_call 15; refine (awake_c _).mono ?_; rintro e w1 ⟨rfl, hb1⟩; have hX1 := hX0.bel hb1; have k0 := hX1.cell 0; have k1 := hX1.cell 1; simp only [List.getElem?_cons_zero, List.getElem?_cons_succ] at k0 k1; have zk := hX1.lt)
          | (go_at_call 16; refine (HFew.out _).mono ?_; rintro e w2 ⟨rfl, hb2⟩))
        have hb02 := tr hb1 hb2 hb1.size
        have hX2 := hX1.bel hb2
        have hr2 := hr0.bel hb02
        clear c0 c1 z0 k0 k1 zk hX1 hb1 hb2 hX0 hr0
        have d0 := hX2.cell 0; have d1 := hX2.cell 1; simp only [List.getElem?_cons_zero, List.getElem?_cons_succ] at d0 d1
        have zd := hX2.lt
        go_upto_region 6 with (first
          | (go_at_call 18; refine (copy_c base A c l _ hr2 hl).mono ?_; rintro e w3 ⟨⟨A3, q3, rfl, hr3⟩, hb3⟩)
          | (go_at_call 42; refine (HRA.out A3 q3 _ hr3).mono ?_; rintro e w4 ⟨rfl, hb4⟩))
        have hb24 := tr hb3 hb4 hb3.size
        have hX4 := hX2.bel hb24
        have hr4 := hr2.bel hb24
        have hb04 := tr hb02 hb24 hb02.size
        clear d0 d1 zd hX2 hr2 hr3 hb3 hb4 hb24 hb02
        have d0 := hX4.cell 0; have d1 := hX4.cell 1; simp only [List.getElem?_cons_zero, List.getElem?_cons_succ] at d0 d1
        have zd := hX4.lt
        go_upto_region 7 with (first
          | (go_at_call 18; refine (copy_c base A c l _ hr4 hl).mono ?_; rintro e w5 ⟨⟨A5, q5, rfl, hr5⟩, hb5⟩)
          | (go_at_call 43; refine (HVA.out A5 q5 _ hr5).mono ?_; rintro e w6 ⟨rfl, hb6⟩))
        have hb46 := tr hb5 hb6 hb5.size
        obtain ⟨W7, hW7⟩ : ∃ W, w6.alloc (.cells #[.int .i64 0, .int .i64 0] 54) = W := ⟨_, rfl⟩
        have hb47 : Below w4.heap.size w4 W7 := by rw [← hW7]; exact bel_alloc hb46 hb46.size _
        have hP7 : Blk W7 w6.heap.size 54 [.int .i64 0, .int .i64 0] := by rw [← hW7]; exact Blk.new w6 _ [_, _]
        have hX7 := hX4.bel hb47
        have hr7 := hr4.bel hb47
        have hb07 := tr hb04 hb47 hb04.size
        rw [hW7]
        clear hW7 d0 d1 zd hX4 hr4 hr5 hb5 hb6 hb46 hb47 hb04
        have d0 := hX7.cell 0; have d1 := hX7.cell 1; simp only [List.getElem?_cons_zero, List.getElem?_cons_succ] at d0 d1
        have zd := hX7.lt
        go_upto_region 8 with (first
          | (go_at_call 30; refine (HPE.out _ hr7).mono ?_; rintro e w8 ⟨rfl, hb8⟩))
        have hX8 := hX7.bel hb8
        have hP8 := hP7.bel hb8
        have hr8 := hr7.bel hb8
        have hb08 := tr hb07 hb8 hb07.size
        clear d0 d1 zd hX7 hP7 hr7 hb8 hb07
        have d0 := hX8.cell 0; have d1 := hX8.cell 1; simp only [List.getElem?_cons_zero, List.getElem?_cons_succ] at d0 d1
        have g0 := hP8.cell 0; have g1 := hP8.cell 1; simp only [List.getElem?_cons_zero, List.getElem?_cons_succ] at g0 g1
        have zd := hX8.lt
        have zg := hP8.lt
        go_wp2_with (first
          | (go_at_call 39; refine (HFE.out _).mono ?_; rintro e_ w_ ⟨rfl, rfl⟩))
        go_ret
        exact ⟨rfl, tr hB0 hb08 hB0.size⟩
    · obtain ⟨x1, x2⟩ := refl_pro (f := f) h1
      have e1 : ((proE base l).2 == 0) = false := by simpa using h1
      have e2 : ((proE base l).2 != 0) = true := by simpa using h1
      rw [x1] at HRA
      rw [x2] at HVA
      unfold rangeV at HVA
      clear x1 x2 h1 hn
      generalize (proE base l).2 = E at HRA HVA HPE e1 e2
      go_enter Try.func8, Try.ntmps8
      go_upto_region 1 with fail
      rw [HW.out]
      go_upto_region 5 with (first
        | (go_at_call 15; refine (awake_c _).mono ?_; rintro e w1 ⟨rfl, hb1⟩; have hX1 := hX0.bel hb1; have k0 := hX1.cell 0; have k1 := hX1.cell 1; simp only [List.getElem?_cons_zero, List.getElem?_cons_succ] at k0 k1; have zk := hX1.lt)
        | (go_at_call 16; refine (HFew.out _).mono ?_; rintro e w2 ⟨rfl, hb2⟩))
      have hb02 := tr hb1 hb2 hb1.size
      have hX2 := hX1.bel hb2
      have hr2 := hr0.bel hb02
      clear c0 c1 z0 k0 k1 zk hX1 hb1 hb2 hX0 hr0
      have d0 := hX2.cell 0; have d1 := hX2.cell 1; simp only [List.getElem?_cons_zero, List.getElem?_cons_succ] at d0 d1
      have zd := hX2.lt
      go_upto_region 6 with (first
        | (go_at_call 18; refine (copy_c base A c l _ hr2 hl).mono ?_; rintro e w3 ⟨⟨A3, q3, rfl, hr3⟩, hb3⟩)
        | (go_at_call 42; refine (HRA.out A3 q3 _ hr3).mono ?_; rintro e w4 ⟨rfl, hb4⟩))
      have hb24 := tr hb3 hb4 hb3.size
      have hX4 := hX2.bel hb24
      have hr4 := hr2.bel hb24
      have hb04 := tr hb02 hb24 hb02.size
      clear d0 d1 zd hX2 hr2 hr3 hb3 hb4 hb24 hb02
      have d0 := hX4.cell 0; have d1 := hX4.cell 1; simp only [List.getElem?_cons_zero, List.getElem?_cons_succ] at d0 d1
      have zd := hX4.lt
      go_upto_region 7 with (first
        | (go_at_call 18; refine (copy_c base A c l _ hr4 hl).mono ?_; rintro e w5 ⟨⟨A5, q5, rfl, hr5⟩, hb5⟩)
        | (go_at_call 43; refine (HVA.out A5 q5 _ hr5).mono ?_; rintro e w6 ⟨rfl, hb6⟩))
      have hb46 := tr hb5 hb6 hb5.size
      obtain ⟨W7, hW7⟩ : ∃ W, w6.alloc (.cells #[.int .i64 0, .int .i64 0] 54) = W := ⟨_, rfl⟩
      have hb47 : Below w4.heap.size w4 W7 := by rw [← hW7]; exact bel_alloc hb46 hb46.size _
      have hP7 : Blk W7 w6.heap.size 54 [.int .i64 0, .int .i64 0] := by rw [← hW7]; exact Blk.new w6 _ [_, _]
      have hX7 := hX4.bel hb47
      have hr7 := hr4.bel hb47
      have hb07 := tr hb04 hb47 hb04.size
      rw [hW7]
      clear hW7 d0 d1 zd hX4 hr4 hr5 hb5 hb6 hb46 hb47 hb04
      have d0 := hX7.cell 0; have d1 := hX7.cell 1; simp only [List.getElem?_cons_zero, List.getElem?_cons_succ] at d0 d1
      have zd := hX7.lt
      go_upto_region 8 with (first
        | (go_at_call 30; refine (HPE.out _ hr7).mono ?_; rintro e w8 ⟨rfl, hb8⟩))
      have hX8 := hX7.bel hb8
      have hP8 := hP7.bel hb8
      have hr8 := hr7.bel hb8
      have hb08 := tr hb07 hb8 hb07.size
      clear d0 d1 zd hX7 hP7 hr7 hb8 hb07
      have d0 := hX8.cell 0; have d1 := hX8.cell 1; simp only [List.getElem?_cons_zero, List.getElem?_cons_succ] at d0 d1
      have g0 := hP8.cell 0; have g1 := hP8.cell 1; simp only [List.getElem?_cons_zero, List.getElem?_cons_succ] at g0 g1
      have zd := hX8.lt
      have zg := hP8.lt
      go_wp2
      go_ret
      exact ⟨rfl, tr hB0 hb08 hB0.size⟩
  · rw [decide_eq_false h14] at HFew
    clear hmx h14 hn
    go_enter Try.func8, Try.ntmps8
    go_upto_region 1 with fail
    rw [HW.out]
    go_wp2_with (first
      | (go_at_call 15; refine (awake_c _).mono ?_; rintro e w1 ⟨rfl, hb1⟩; have hX1 := hX0.bel hb1; have k0 := hX1.cell 0; have k1 := hX1.cell 1; simp only [List.getElem?_cons_zero, List.getElem?_cons_succ] at k0 k1; have zk := hX1.lt)
      | (go_at_call 16; refine (HFew.out _).mono ?_; rintro e w2 ⟨rfl, hb2⟩))
    go_ret
    exact ⟨rfl, tr hB0 (tr hb1 hb2 hb1.size) hB0.size⟩
end Go.Proofs.Ytgnhkjfdicdcmaa
