/- Law: traces. -/
import Derived.Test.YtdeehodekilaiaaF16
import Derived.Test.YtdeehodekilaiaaU4
set_option linter.unusedSimpArgs false
set_option linter.unusedVariables false
namespace Go.Proofs.Ytdeehodekilaiaa
open Go.RowKit
set_option maxRecDepth 100000

set_option maxHeartbeats 4000000 in
theorem tracesLaw_c (base : Int) (A F : Option Addr) (c fc : Nat) (l : List G) (fs : List Int) (w : World) (hr : Rd w A (gs l)) (hf : Rd w F (ints fs)) (hmx : l.length ≤ maxLen) (hfx : fs.length ≤ maxLen) :
    Calls Try.prog 3 #[.agg #[.int .i64 base, .slice A l.length c], .slice F fs.length fc] w fun r w' => r = .returned (.bool true) ∧ Below w.heap.size w w' := by
  obtain ⟨W0, hW0⟩ : ∃ W0, w.alloc (.cells #[.int .i64 base, .slice A l.length c] 24) = W0 := ⟨_, rfl⟩
  have hX0 : Blk W0 w.heap.size 24 [.int .i64 base, .slice A l.length c] := by rw [← hW0]; exact Blk.new w _ [_, _]
  have hB0 : Below w.heap.size w W0 := by rw [← hW0]; exact alloc_bel w _
  have hr0 := hr.bel hB0
  have hf0 := hf.bel hB0
  have HW := hide hW0
  have h63 : fs.length ≤ 9223372036854775807 := hfx
  clear hW0 hr hf hfx
  have c0 := hX0.cell 0; have c1 := hX0.cell 1; simp only [List.getElem?_cons_zero, List.getElem?_cons_succ] at c0 c1
  have z0 := hX0.lt
  have HFew := hide (fun W => few_c base A c l W hmx)
  by_cases h14 : l.length ≤ 14
  · rw [decide_eq_true h14] at HFew
    have hl : l.length ≤ 1000 := by omega
    clear hmx
    by_cases h10 : 10 < fs.length
    · have e1 : decide (10 < (fs.length : Int)) = true := decide_eq_true (by omega)
      clear h10
      go_enter Try.func3, Try.ntmps3
      go_upto_region 1 with fail
      rw [HW.out]
      go_wp2_with (first
        | (go_at_call 6; refine (awake_c _).mono ?_; rintro e w1 ⟨rfl, hb1⟩; have hX1 := hX0.bel hb1; have k0 := hX1.cell 0; have k1 := hX1.cell 1; simp only [List.getElem?_cons_zero, List.getElem?_cons_succ] at k0 k1; have zk := hX1.lt)
        | (go_at_call 7; refine (HFew.out _).mono ?_; rintro e w2 ⟨rfl, hb2⟩))
      go_ret
      exact ⟨rfl, tr hB0 (tr hb1 hb2 hb1.size) hB0.size⟩
    · have e1 : decide (10 < (fs.length : Int)) = false := decide_eq_false (by omega)
      have hfs : fs.length ≤ 1000 := by omega
      clear h10
      have HCP := hide (fun W h => copy_c base A c l W h hl)
      have HCI := hide (fun W h => copyInts_c fs F fc W h (by omega))
      have HPE := hide (fun W h => refErr_c base A c l W h hl)
      have HTO := hide (fun A c F fc W h h' => traceOf_c base A c l F fc fs W h h' hl hfs)
      by_cases h1 : (proE base l).2 = 0
      · have hPr := proE_zero h1
        have HRT := hide (fun W h h' => refTraceOf_c base A c l F fc fs W h h' hPr hfs)
        have hpl : (trfR base l fs).1.length ≤ 1000 := by
          unfold trfR
          split
          · split
            · simpa using hfs
            · simp
          · simp
        rw [h1] at HPE
        generalize (trfR base l fs).2.1 = PI at HTO HRT
        generalize (trfR base l fs).2.2 = PE at HTO HRT
        generalize (trfR base l fs).1 = PL at HTO HRT hpl
        clear h1 hPr
        go_enter Try.func3, Try.ntmps3
        go_upto_region 1 with fail
        rw [HW.out]
        go_upto_region 5 with (first
          | (go_at_call 6; refine (awake_c _).mono ?_; rintro e w1 ⟨rfl, hb1⟩; have hX1 := hX0.bel hb1; have k0 := hX1.cell 0; have k1 := hX1.cell 1; simp only [List.getElem?_cons_zero, List.getElem?_cons_succ] at k0 k1; have zk := hX1.lt)
          | (go_at_call 7; refine (HFew.out _).mono ?_; rintro e w2 ⟨rfl, hb2⟩))
        have hB2 := tr hb1 hb2 hb1.size
        have hX2 := hX1.bel hb2
        have hr2 := hr0.bel hB2
        have hf2 := hf0.bel hB2
        have hs2 := hB2.size
        clear c0 c1 z0 k0 k1 zk hX1 hb1 hb2 hX0 hr0 hf0
        have d0 := hX2.cell 0; have d1 := hX2.cell 1; simp only [List.getElem?_cons_zero, List.getElem?_cons_succ] at d0 d1
        have zd := hX2.lt
        go_upto_region 6 with (first
          | (go_at_call 9; refine (HCP.out _ hr2).mono ?_; rintro e w3 ⟨⟨A3, q3, rfl, hr3⟩, hb3⟩)
          | (go_at_call 10; refine (HCI.out _ (hf2.bel hb3)).mono ?_; rintro e w4 ⟨⟨F4, q4, rfl, hf4⟩, hb4⟩)
          | (go_at_call 8; refine (HTO.out A3 q3 F4 q4 _ (hr3.bel hb4) hf4).mono ?_; rintro e w5 ⟨⟨A5, q5, rfl, hr5⟩, hb5⟩))
        have hb35 := tr (tr hb3 hb4 hb3.size) hb5 (by have := hb3.size; have := hb4.size; omega)
        have hX5 := hX2.bel hb35
        have hr5' := hr2.bel hb35
        have hf5' := hf2.bel hb35
        have hB5 := tr hB2 hb35 hs2
        obtain ⟨P, hP⟩ : ∃ P, w5.heap.size = P := ⟨_, rfl⟩
        obtain ⟨W6, hW6⟩ : ∃ W, w5.alloc (.cells #[.slice A5 PL.length q5, .int .i64 0, .int .i64 0] 30) = W := ⟨_, rfl⟩
        have hb6 : Below w5.heap.size w5 W6 := by rw [← hW6]; exact alloc_bel _ _
        have hT6 : Blk W6 P 30 [.slice A5 PL.length q5, .int .i64 0, .int .i64 0] := by rw [← hW6, ← hP]; exact Blk.new w5 _ [_, _, _]
        rw [hW6, hP]
        clear hW6 d0 d1 zd hX2 hr2 hf2 hr3 hf4 hb3 hb4 hb5 hB2
        have hX6 := hX5.bel hb6
        have hr6 := hr5'.bel hb6
        have hf6 := hf5'.bel hb6
        have hR6 := hr5.bel hb6
        have hB6 := tr hB5 hb6 (by have := hb35.size; omega)
        have d0 := hX6.cell 0; have d1 := hX6.cell 1; simp only [List.getElem?_cons_zero, List.getElem?_cons_succ] at d0 d1
        have zd := hX6.lt
        go_upto_region 7 with (first
          | (go_at_call 11; refine (HPE.out _ hr6).mono ?_; rintro e w7 ⟨rfl, hb7⟩))
        have hX7 := hX6.bel hb7
        have hr7 := hr6.bel hb7
        have hf7 := hf6.bel hb7
        have hR7 := hR6.bel hb7
        have hT7 := hT6.bel hb7
        have hB7 := tr hB6 hb7 hB6.size
        clear d0 d1 zd hX5 hr5' hf5' hX6 hr6 hf6 hR6 hr5 hT6
        have d0 := hX7.cell 0; have d1 := hX7.cell 1; simp only [List.getElem?_cons_zero, List.getElem?_cons_succ] at d0 d1
        have t0 := hT7.cell 0; have t1 := hT7.cell 1; have t2 := hT7.cell 2; simp only [List.getElem?_cons_zero, List.getElem?_cons_succ] at t0 t1 t2
        have zd := hX7.lt
        have zt := hT7.lt
        go_upto_region 10 with (first
          | (go_at_call 13; refine (HRT.out _ hr7 hf7).mono ?_; rintro e w8 ⟨⟨A8, q8, rfl, hr8⟩, hb8⟩))
        obtain ⟨Q, hQ⟩ : ∃ Q, w8.heap.size = Q := ⟨_, rfl⟩
        obtain ⟨W9, hW9⟩ : ∃ W, w8.alloc (.cells #[.slice A8 PL.length q8, .int .i64 0, .int .i64 0] 30) = W := ⟨_, rfl⟩
        have hb9 : Below w8.heap.size w8 W9 := by rw [← hW9]; exact alloc_bel _ _
        have hU9 : Blk W9 Q 30 [.slice A8 PL.length q8, .int .i64 0, .int .i64 0] := by rw [← hW9, ← hQ]; exact Blk.new w8 _ [_, _, _]
        rw [hW9, hQ]
        clear hW9 d0 d1 t0 t1 t2 zd zt
        have hb79 := tr hb8 hb9 hb8.size
        have hT9 := hT7.bel hb79
        have hR9 := hR7.bel hb79
        have hS9 := hr8.bel hb9
        have hB9 := tr hB7 hb79 hB7.size
        have t0 := hT9.cell 0; have t1 := hT9.cell 1; have t2 := hT9.cell 2; simp only [List.getElem?_cons_zero, List.getElem?_cons_succ] at t0 t1 t2
        have u0 := hU9.cell 0; have u1 := hU9.cell 1; have u2 := hU9.cell 2; simp only [List.getElem?_cons_zero, List.getElem?_cons_succ] at u0 u1 u2
        have zt := hT9.lt
        have zu := hU9.lt
        have HSM := hide (sameTrace_eq 0 0 A5 A8 q5 q8 PL W9 hR9 hS9 hpl)
        have e2 : (PE == PE) = true := by simp
        have e3 : (PI == PI) = true := by simp
        go_wp2_with (first
          | (go_at_call 12; refine HSM.out.mono ?_; rintro e wA ⟨rfl, hbA⟩))
        go_ret
        exact ⟨rfl, tr hB0 (tr hB9 hbA hB9.size) hB0.size⟩
      · have h2 : trfR base l fs = ([], 0, (proE base l).2) := by
          have : trfHead (proE base l).2 fs.length = (proE base l).2 := by unfold trfHead; simp [firstE, h1]
          exact trfR_head this h1
        rw [h2] at HTO
        dsimp only at HTO
        have e2 : ((proE base l).2 != 0) = true := by simpa using h1
        have e3 : ((proE base l).2 == (proE base l).2) = true := by simp
        clear h2 h1
        generalize (proE base l).2 = PE at HPE HTO e2 e3
        go_enter Try.func3, Try.ntmps3
        go_upto_region 1 with fail
        rw [HW.out]
        go_upto_region 5 with (first
          | (go_at_call 6; refine (awake_c _).mono ?_; rintro e w1 ⟨rfl, hb1⟩; have hX1 := hX0.bel hb1; have k0 := hX1.cell 0; have k1 := hX1.cell 1; simp only [List.getElem?_cons_zero, List.getElem?_cons_succ] at k0 k1; have zk := hX1.lt)
          | (go_at_call 7; refine (HFew.out _).mono ?_; rintro e w2 ⟨rfl, hb2⟩))
        have hB2 := tr hb1 hb2 hb1.size
        have hX2 := hX1.bel hb2
        have hr2 := hr0.bel hB2
        have hf2 := hf0.bel hB2
        have hs2 := hB2.size
        clear c0 c1 z0 k0 k1 zk hX1 hb1 hb2 hX0 hr0 hf0
        have d0 := hX2.cell 0; have d1 := hX2.cell 1; simp only [List.getElem?_cons_zero, List.getElem?_cons_succ] at d0 d1
        have zd := hX2.lt
        go_upto_region 6 with (first
          | (go_at_call 9; refine (HCP.out _ hr2).mono ?_; rintro e w3 ⟨⟨A3, q3, rfl, hr3⟩, hb3⟩)
          | (go_at_call 10; refine (HCI.out _ (hf2.bel hb3)).mono ?_; rintro e w4 ⟨⟨F4, q4, rfl, hf4⟩, hb4⟩)
          | (go_at_call 8; refine (HTO.out A3 q3 F4 q4 _ (hr3.bel hb4) hf4).mono ?_; rintro e w5 ⟨⟨A5, q5, rfl, hr5⟩, hb5⟩))
        have hb35 := tr (tr hb3 hb4 hb3.size) hb5 (by have := hb3.size; have := hb4.size; omega)
        have hX5 := hX2.bel hb35
        have hr5' := hr2.bel hb35
        have hf5' := hf2.bel hb35
        have hB5 := tr hB2 hb35 hs2
        obtain ⟨P, hP⟩ : ∃ P, w5.heap.size = P := ⟨_, rfl⟩
        obtain ⟨W6, hW6⟩ : ∃ W, w5.alloc (.cells #[.slice A5 0 q5, .int .i64 0, .int .i64 0] 30) = W := ⟨_, rfl⟩
        have hb6 : Below w5.heap.size w5 W6 := by rw [← hW6]; exact alloc_bel _ _
        have hT6 : Blk W6 P 30 [.slice A5 0 q5, .int .i64 0, .int .i64 0] := by rw [← hW6, ← hP]; exact Blk.new w5 _ [_, _, _]
        rw [hW6, hP]
        clear hW6 d0 d1 zd hX2 hr2 hf2 hr3 hf4 hb3 hb4 hb5 hB2
        have hX6 := hX5.bel hb6
        have hr6 := hr5'.bel hb6
        have hf6 := hf5'.bel hb6
        have hR6 := hr5.bel hb6
        have hB6 := tr hB5 hb6 (by have := hb35.size; omega)
        have d0 := hX6.cell 0; have d1 := hX6.cell 1; simp only [List.getElem?_cons_zero, List.getElem?_cons_succ] at d0 d1
        have zd := hX6.lt
        go_upto_region 7 with (first
          | (go_at_call 11; refine (HPE.out _ hr6).mono ?_; rintro e w7 ⟨rfl, hb7⟩))
        have hX7 := hX6.bel hb7
        have hr7 := hr6.bel hb7
        have hf7 := hf6.bel hb7
        have hR7 := hR6.bel hb7
        have hT7 := hT6.bel hb7
        have hB7 := tr hB6 hb7 hB6.size
        clear d0 d1 zd hX5 hr5' hf5' hX6 hr6 hf6 hR6 hr5 hT6
        have d0 := hX7.cell 0; have d1 := hX7.cell 1; simp only [List.getElem?_cons_zero, List.getElem?_cons_succ] at d0 d1
        have t0 := hT7.cell 0; have t1 := hT7.cell 1; have t2 := hT7.cell 2; simp only [List.getElem?_cons_zero, List.getElem?_cons_succ] at t0 t1 t2
        have zd := hX7.lt
        have zt := hT7.lt
        have HSM := hide (sameTrace_eq 0 0 A5 none q5 0 [] w7 hR7 (Rd.nil _ _) (by simp))
        go_wp2_with (first
          | (go_at_call 12; refine HSM.out.mono ?_; rintro e wA ⟨rfl, hbA⟩))
        go_ret
        exact ⟨rfl, tr hB0 (tr hB7 hbA hB7.size) hB0.size⟩
  · rw [decide_eq_false h14] at HFew
    clear hmx h14
    go_enter Try.func3, Try.ntmps3
    go_upto_region 1 with fail
    rw [HW.out]
    go_wp2_with (first
      | (go_at_call 6; refine (awake_c _).mono ?_; rintro e w1 ⟨rfl, hb1⟩; have hX1 := hX0.bel hb1; have k0 := hX1.cell 0; have k1 := hX1.cell 1; simp only [List.getElem?_cons_zero, List.getElem?_cons_succ] at k0 k1; have zk := hX1.lt)
      | (go_at_call 7; refine (HFew.out _).mono ?_; rintro e w2 ⟨rfl, hb2⟩))
    go_ret
    exact ⟨rfl, tr hB0 (tr hb1 hb2 hb1.size) hB0.size⟩
end Go.Proofs.Ytdeehodekilaiaa
