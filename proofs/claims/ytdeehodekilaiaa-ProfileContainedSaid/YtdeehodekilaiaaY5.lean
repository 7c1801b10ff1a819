/- Contracts: the fit of any trace. -/
import Derived.Test.YtdeehodekilaiaaY0
import Derived.Test.YtdeehodekilaiaaF14
set_option linter.unusedSimpArgs false
set_option linter.unusedVariables false
namespace Go.Proofs.Ytdeehodekilaiaa
open Go.RowKit
set_option maxRecDepth 100000

def fitAll (l : List PT) (after width : Int) : Int × List G × Int × Int := if (trE l after width).2 = 0 then fitRes l width else (0, [], 0, (trE l after width).2)
set_option maxHeartbeats 2000000 in
theorem fitted_bad (A : Option Addr) (c : Nat) (after width : Int) (l : List PT) (w : World) (hr : Rd w A (ps l)) (hl : l.length ≤ 1000) (he : firstE [(trE l after width).2, errIf (decide (0 < width)) 15] ≠ 0) :
    Calls Try.prog 23 #[.agg #[.slice A l.length c, .int .i64 after, .int .i64 width]] w fun r w' => r = .returned (.tuple #[.agg #[.int .i64 0, .slice none 0 0], .int .i64 0, .int .i64 (firstE [(trE l after width).2, errIf (decide (0 < width)) 15])]) ∧ Below w.heap.size w w' := by
  have HC := hide (fun W h => checked_c A c after width l W h hl)
  generalize (trE l after width).2 = te at HC he ⊢
  obtain ⟨E, hE⟩ : ∃ E, firstE [te, errIf (decide (0 < width)) 15] = E := ⟨_, rfl⟩
  have e1 : (firstE [te, errIf (decide (0 < width)) 15] != 0) = true := by simpa using he
  have HEE := hide hE
  clear he hE
  by_cases ht : te = 0
  · have HV : Hid (chkV A l.length c after width te = .tuple #[.agg #[.slice A l.length c, .int .i64 after, .int .i64 width], .int .i64 te]) := by show _ = _; unfold chkV; rw [if_pos ht]
    rw [HV.out] at HC
    clear HV ht
    obtain ⟨W0, hW0⟩ : ∃ W0, (w.alloc (.cells #[.slice A l.length c, .int .i64 after, .int .i64 width] 30)).alloc (.cells #[.int .i64 0, .slice none 0 0] 24) = W0 := ⟨_, rfl⟩
    obtain ⟨p, hp⟩ : ∃ p, w.heap.size = p := ⟨_, rfl⟩
    have hX0 : Blk W0 p 30 [.slice A l.length c, .int .i64 after, .int .i64 width] := by rw [← hW0, ← hp]; exact (two_new w _ _ [_, _, _] [_, _]).1
    have hR0 : Blk W0 (p + 1) 24 [.int .i64 0, .slice none 0 0] := by rw [← hW0, ← hp]; exact (two_new w _ _ [_, _, _] [_, _]).2.1
    have hB0 : Below p w W0 := by rw [← hW0, ← hp]; exact (two_new w _ _ [_, _, _] [_, _]).2.2
    have hr0 := hr.bel (by rw [hp]; exact hB0)
    have HW := hide hW0
    clear hW0
    have c0 := hX0.cell 0; have c1 := hX0.cell 1; have c2 := hX0.cell 2; simp only [List.getElem?_cons_zero, List.getElem?_cons_succ] at c0 c1 c2
    have z0 := hX0.lt
    have hzp := hR0.lt
    go_enter Try.func23, Try.ntmps23
    go_upto_region 1 with fail
    rw [HW.out]
    go_upto_region 2 with (first | (go_at_call 47; refine (HC.out _ hr0).mono ?_; rintro e w1 ⟨rfl, hb1⟩))
    obtain ⟨s, hss⟩ : ∃ s, w1.heap.size = s := ⟨_, rfl⟩
    obtain ⟨W2, hW2⟩ : ∃ W, w1.alloc (.cells #[.slice A l.length c, .int .i64 after, .int .i64 width] 98) = W := ⟨_, rfl⟩
    have hb2 : Below W0.heap.size W0 W2 := by rw [← hW2]; exact bel_alloc hb1 hb1.size _
    have hC2 : Blk W2 s 98 [.slice A l.length c, .int .i64 after, .int .i64 width] := by rw [← hW2, ← hss]; exact Blk.new w1 _ [_, _, _]
    have hX2 := hX0.bel hb2
    have hR2 := hR0.bel hb2
    have hr2 := hr0.bel hb2
    have hB2 := bel_tr hB0 (by omega) hb2
    have hz2 := hb2.size
    rw [hW2, hss]
    clear hW2 c0 c1 c2 z0 hX0 hR0 hr0 hb1
    have c2 := hX2.cell 2
    simp only [List.getElem?_cons_zero, List.getElem?_cons_succ] at c2
    have z0 := hX2.lt
    go_upto_region 3 with (first
      | (go_at_call 35; refine (errorIf_c _ _ _).mono ?_; rintro e_ w_ ⟨rfl, rfl⟩)
      | (go_at_call 33; refine (firstError_2 _ _ _).mono ?_; rintro e_ w_ ⟨rfl, rfl⟩))
    obtain ⟨W4, hW4⟩ : ∃ W, W2.alloc (.cells #[.int .i64 te, .int .i64 (errIf (decide (0 < width)) 15)] 31) = W := ⟨_, rfl⟩
    have hb4 : Below W2.heap.size W2 W4 := by rw [← hW4]; exact alloc_bel _ _
    have hC4 := hC2.bel hb4
    have hR4 := hR2.bel hb4
    have hr4 := hr2.bel hb4
    have hB4 := bel_tr hB2 (by omega) hb4
    have hz4 := hb4.size
    rw [hW4]
    clear hW4 c2 z0 hX2 hC2 hR2 hr2 hB2 hb4
    have fz0 := hR4.frozen 0
    have fz1 := hR4.frozen 1
    have r0 := hR4.cell 0
    have r1 := hR4.cell 1
    simp only [List.getElem?_cons_zero, List.getElem?_cons_succ] at r0 r1
    have zr := hR4.lt
    go_wp2
    obtain ⟨WE, hWE⟩ : ∃ WE, (W4.setCell ⟨p + 1, 0, none⟩ (.int .i64 0)).setCell ⟨p + 1, 1, none⟩ (.slice none 0 0) = WE := ⟨_, rfl⟩
    rw [hWE]
    have hE : Blk WE (p + 1) 24 [.int .i64 0, .slice none 0 0] := by rw [← hWE]; exact (hR4.set_ 0 _).set_ 1 _
    have hBE : Below p w WE := by rw [← hWE]; exact ((hB4).setCell (by show p ≤ p + 1; omega) _).setCell (by show p ≤ p + 1; omega) _
    clear hWE
    have g0 := hE.cell 0; have g1 := hE.cell 1; simp only [List.getElem?_cons_zero, List.getElem?_cons_succ] at g0 g1
    exact bodyPost_ret (v := .tuple #[.agg #[.int .i64 0, .slice none 0 0], .int .i64 0, .int .i64 (firstE [te, errIf (decide (0 < width)) 15])]) (by simp [results, Try.results23, go_sem, g0, g1]; try rfl) rfl ⟨by first | rfl | (rw [HEE.out]), by rw [hp]; exact hBE⟩
  · have HV : Hid (chkV A l.length c after width te = .tuple #[.agg #[.slice none 0 0, .int .i64 0, .int .i64 0], .int .i64 te]) := by show _ = _; unfold chkV; rw [if_neg ht]
    rw [HV.out] at HC
    clear HV ht
    obtain ⟨W0, hW0⟩ : ∃ W0, (w.alloc (.cells #[.slice A l.length c, .int .i64 after, .int .i64 width] 30)).alloc (.cells #[.int .i64 0, .slice none 0 0] 24) = W0 := ⟨_, rfl⟩
    obtain ⟨p, hp⟩ : ∃ p, w.heap.size = p := ⟨_, rfl⟩
    have hX0 : Blk W0 p 30 [.slice A l.length c, .int .i64 after, .int .i64 width] := by rw [← hW0, ← hp]; exact (two_new w _ _ [_, _, _] [_, _]).1
    have hR0 : Blk W0 (p + 1) 24 [.int .i64 0, .slice none 0 0] := by rw [← hW0, ← hp]; exact (two_new w _ _ [_, _, _] [_, _]).2.1
    have hB0 : Below p w W0 := by rw [← hW0, ← hp]; exact (two_new w _ _ [_, _, _] [_, _]).2.2
    have hr0 := hr.bel (by rw [hp]; exact hB0)
    have HW := hide hW0
    clear hW0
    have c0 := hX0.cell 0; have c1 := hX0.cell 1; have c2 := hX0.cell 2; simp only [List.getElem?_cons_zero, List.getElem?_cons_succ] at c0 c1 c2
    have z0 := hX0.lt
    have hzp := hR0.lt
    go_enter Try.func23, Try.ntmps23
    go_upto_region 1 with fail
    rw [HW.out]
    go_upto_region 2 with (first | (go_at_call 47; refine (HC.out _ hr0).mono ?_; rintro e w1 ⟨rfl, hb1⟩))
    obtain ⟨s, hss⟩ : ∃ s, w1.heap.size = s := ⟨_, rfl⟩
    obtain ⟨W2, hW2⟩ : ∃ W, w1.alloc (.cells #[.slice none 0 0, .int .i64 0, .int .i64 0] 98) = W := ⟨_, rfl⟩
    have hb2 : Below W0.heap.size W0 W2 := by rw [← hW2]; exact bel_alloc hb1 hb1.size _
    have hC2 : Blk W2 s 98 [.slice none 0 0, .int .i64 0, .int .i64 0] := by rw [← hW2, ← hss]; exact Blk.new w1 _ [_, _, _]
    have hX2 := hX0.bel hb2
    have hR2 := hR0.bel hb2
    have hr2 := hr0.bel hb2
    have hB2 := bel_tr hB0 (by omega) hb2
    have hz2 := hb2.size
    rw [hW2, hss]
    clear hW2 c0 c1 c2 z0 hX0 hR0 hr0 hb1
    have c2 := hX2.cell 2
    simp only [List.getElem?_cons_zero, List.getElem?_cons_succ] at c2
    have z0 := hX2.lt
    go_upto_region 3 with (first
      | (go_at_call 35; refine (errorIf_c _ _ _).mono ?_; rintro e_ w_ ⟨rfl, rfl⟩)
      | (go_at_call 33; refine (firstError_2 _ _ _).mono ?_; rintro e_ w_ ⟨rfl, rfl⟩))
    obtain ⟨W4, hW4⟩ : ∃ W, W2.alloc (.cells #[.int .i64 te, .int .i64 (errIf (decide (0 < width)) 15)] 31) = W := ⟨_, rfl⟩
    have hb4 : Below W2.heap.size W2 W4 := by rw [← hW4]; exact alloc_bel _ _
    have hC4 := hC2.bel hb4
    have hR4 := hR2.bel hb4
    have hr4 := hr2.bel hb4
    have hB4 := bel_tr hB2 (by omega) hb4
    have hz4 := hb4.size
    rw [hW4]
    clear hW4 c2 z0 hX2 hC2 hR2 hr2 hB2 hb4
    have fz0 := hR4.frozen 0
    have fz1 := hR4.frozen 1
    have r0 := hR4.cell 0
    have r1 := hR4.cell 1
    simp only [List.getElem?_cons_zero, List.getElem?_cons_succ] at r0 r1
    have zr := hR4.lt
    go_wp2
    obtain ⟨WE, hWE⟩ : ∃ WE, (W4.setCell ⟨p + 1, 0, none⟩ (.int .i64 0)).setCell ⟨p + 1, 1, none⟩ (.slice none 0 0) = WE := ⟨_, rfl⟩
    rw [hWE]
    have hE : Blk WE (p + 1) 24 [.int .i64 0, .slice none 0 0] := by rw [← hWE]; exact (hR4.set_ 0 _).set_ 1 _
    have hBE : Below p w WE := by rw [← hWE]; exact ((hB4).setCell (by show p ≤ p + 1; omega) _).setCell (by show p ≤ p + 1; omega) _
    clear hWE
    have g0 := hE.cell 0; have g1 := hE.cell 1; simp only [List.getElem?_cons_zero, List.getElem?_cons_succ] at g0 g1
    exact bodyPost_ret (v := .tuple #[.agg #[.int .i64 0, .slice none 0 0], .int .i64 0, .int .i64 (firstE [te, errIf (decide (0 < width)) 15])]) (by simp [results, Try.results23, go_sem, g0, g1]; try rfl) rfl ⟨by first | rfl | (rw [HEE.out]), by rw [hp]; exact hBE⟩

set_option maxHeartbeats 2000000 in
theorem fitted_break (A : Option Addr) (c : Nat) (after width : Int) (l : List PT) (w : World) (hr : Rd w A (ps l)) (hT : Tr l after width) (hw : ¬ 0 < width) (h5 : 500 < plo l 0) :
    Calls Try.prog 23 #[.agg #[.slice A l.length c, .int .i64 after, .int .i64 width]] w fun r w' => r = .returned (.tuple #[.agg #[.int .i64 0, .slice none 0 0], .int .i64 0, .int .i64 22]) ∧ Below w.heap.size w w' := by
  have hn0 := hT.n0
  have HC := hide (fun W h => checked_c A c after width l W h (by have := hT.n1; omega))
  have hte : (trE l after width).2 = 0 := by rw [hT.err]
  rw [hte] at HC
  have HV : Hid (chkV A l.length c after width 0 = .tuple #[.agg #[.slice A l.length c, .int .i64 after, .int .i64 width], .int .i64 0]) := by show _ = _; unfold chkV; rw [if_pos rfl]
  rw [HV.out] at HC
  clear HV hte
  have hd : decide (0 < width) = false := decide_eq_false hw
  have e1 : (firstE [0, errIf false 15] != 0) = false := rfl
  clear hw
  obtain ⟨b, off, rfl, _, _, _, _⟩ := hr.p_at (k := 0) (by omega)
  obtain ⟨W0, hW0⟩ : ∃ W0, (w.alloc (.cells #[.slice (some ⟨b, off, none⟩) l.length c, .int .i64 after, .int .i64 width] 30)).alloc (.cells #[.int .i64 0, .slice none 0 0] 24) = W0 := ⟨_, rfl⟩
  obtain ⟨p, hp⟩ : ∃ p, w.heap.size = p := ⟨_, rfl⟩
  have hX0 : Blk W0 p 30 [.slice (some ⟨b, off, none⟩) l.length c, .int .i64 after, .int .i64 width] := by rw [← hW0, ← hp]; exact (two_new w _ _ [_, _, _] [_, _]).1
  have hR0 : Blk W0 (p + 1) 24 [.int .i64 0, .slice none 0 0] := by rw [← hW0, ← hp]; exact (two_new w _ _ [_, _, _] [_, _]).2.1
  have hB0 : Below p w W0 := by rw [← hW0, ← hp]; exact (two_new w _ _ [_, _, _] [_, _]).2.2
  have hr0 := hr.bel (by rw [hp]; exact hB0)
  have HW := hide hW0
  clear hW0
  have c0 := hX0.cell 0; have c1 := hX0.cell 1; have c2 := hX0.cell 2; simp only [List.getElem?_cons_zero, List.getElem?_cons_succ] at c0 c1 c2
  have z0 := hX0.lt
  have hzp := hR0.lt
  go_enter Try.func23, Try.ntmps23
  go_upto_region 1 with fail
  rw [HW.out]
  go_upto_region 2 with (first | (go_at_call 47; refine (HC.out _ hr0).mono ?_; rintro e w1 ⟨rfl, hb1⟩))
  obtain ⟨s, hss⟩ : ∃ s, w1.heap.size = s := ⟨_, rfl⟩
  obtain ⟨W2, hW2⟩ : ∃ W, w1.alloc (.cells #[.slice (some ⟨b, off, none⟩) l.length c, .int .i64 after, .int .i64 width] 98) = W := ⟨_, rfl⟩
  have hb2 : Below W0.heap.size W0 W2 := by rw [← hW2]; exact bel_alloc hb1 hb1.size _
  have hC2 : Blk W2 s 98 [.slice (some ⟨b, off, none⟩) l.length c, .int .i64 after, .int .i64 width] := by rw [← hW2, ← hss]; exact Blk.new w1 _ [_, _, _]
  have hX2 := hX0.bel hb2
  have hR2 := hR0.bel hb2
  have hr2 := hr0.bel hb2
  have hB2 := bel_tr hB0 (by omega) hb2
  have hz2 := hb2.size
  rw [hW2, hss]
  clear hW2 c0 c1 c2 z0 hX0 hR0 hr0 hb1
  have c2 := hX2.cell 2
  simp only [List.getElem?_cons_zero, List.getElem?_cons_succ] at c2
  have z0 := hX2.lt
  go_upto_region 3 with (first
    | (go_at_call 35; refine (errorIf_c _ _ _).mono ?_; rintro e_ w_ ⟨rfl, rfl⟩)
    | (go_at_call 33; refine (firstError_2 _ _ _).mono ?_; rintro e_ w_ ⟨rfl, rfl⟩))
  obtain ⟨W4, hW4⟩ : ∃ W, W2.alloc (.cells #[.int .i64 0, .int .i64 (errIf false 15)] 31) = W := ⟨_, rfl⟩
  have hb4 : Below W2.heap.size W2 W4 := by rw [← hW4]; exact alloc_bel _ _
  have hC4 := hC2.bel hb4
  have hR4 := hR2.bel hb4
  have hr4 := hr2.bel hb4
  have hB4 := bel_tr hB2 (by omega) hb4
  have hz4 := hb4.size
  rw [hW4]
  clear hW4 c2 z0 hX2 hC2 hR2 hr2 hB2 hb4
  obtain ⟨b', off', e', hblt, _, x1, _⟩ := hr4.p_at (k := 0) (by omega)
  cases e'
  rw [← getD_at (show 0 < l.length by omega) P0, show (l.getD 0 P0).2.1 = plo l 0 from rfl] at x1
  simp only [Nat.zero_mul, Nat.add_zero] at x1
  have i3 : 0 < l.length := by omega
  have e5 : decide (500 < plo l 0) = true := decide_eq_true h5
  have m0 := hC4.cell 0
  simp only [List.getElem?_cons_zero] at m0
  have zm := hC4.lt
  go_upto_region 6 with fail
  obtain ⟨W5, hW5⟩ : ∃ W, W4.alloc (.cells #[.int .i64 (plo l 0), .slice none 0 0] 24) = W := ⟨_, rfl⟩
  have hb5 : Below W4.heap.size W4 W5 := by rw [← hW5]; exact alloc_bel _ _
  have hQ5 : Blk W5 W4.heap.size 24 [.int .i64 (plo l 0), .slice none 0 0] := by rw [← hW5]; exact Blk.new W4 _ [_, _]
  have hR5 := hR4.bel hb5
  have hB5 := bel_tr hB4 (by omega) hb5
  rw [hW5]
  clear hW5 m0 zm x1
  have q0 := hQ5.cell 0; have q1 := hQ5.cell 1; simp only [List.getElem?_cons_zero, List.getElem?_cons_succ] at q0 q1
  have zq := hQ5.lt
  have fz0 := hR5.frozen 0
  have fz1 := hR5.frozen 1
  have r0 := hR5.cell 0
  have r1 := hR5.cell 1
  simp only [List.getElem?_cons_zero, List.getElem?_cons_succ] at r0 r1
  have zr := hR5.lt
  go_wp2
  obtain ⟨WE, hWE⟩ : ∃ WE, (W5.setCell ⟨p + 1, 0, none⟩ (.int .i64 0)).setCell ⟨p + 1, 1, none⟩ (.slice none 0 0) = WE := ⟨_, rfl⟩
  rw [hWE]
  have hE : Blk WE (p + 1) 24 [.int .i64 0, .slice none 0 0] := by rw [← hWE]; exact (hR5.set_ 0 _).set_ 1 _
  have hBE : Below p w WE := by rw [← hWE]; exact ((hB5).setCell (by show p ≤ p + 1; omega) _).setCell (by show p ≤ p + 1; omega) _
  clear hWE
  have g0 := hE.cell 0; have g1 := hE.cell 1; simp only [List.getElem?_cons_zero, List.getElem?_cons_succ] at g0 g1
  exact bodyPost_ret (v := .tuple #[.agg #[.int .i64 0, .slice none 0 0], .int .i64 0, .int .i64 22]) (by simp [results, Try.results23, go_sem, g0, g1]; try rfl) rfl ⟨by first | rfl | (rw [HEE.out]), by rw [hp]; exact hBE⟩

/-- The fit of any trace. -/
theorem fittedAll_c (A : Option Addr) (c : Nat) (after width : Int) (l : List PT) (w : World) (hr : Rd w A (ps l)) (hl : l.length ≤ 1000) :
    Calls Try.prog 23 #[.agg #[.slice A l.length c, .int .i64 after, .int .i64 width]] w fun r w' => (∃ A' c', r = .returned (.tuple #[.agg #[.int .i64 (fitAll l after width).1, .slice A' (fitAll l after width).2.1.length c'], .int .i64 (fitAll l after width).2.2.1, .int .i64 (fitAll l after width).2.2.2]) ∧ Rd w' A' (gs (fitAll l after width).2.1)) ∧ Below w.heap.size w w' := by
  by_cases ht : (trE l after width).2 = 0
  · have hT := trE_zero ht
    have hw0 := hT.w0
    have hA : fitAll l after width = fitRes l width := by unfold fitAll; rw [if_pos ht]
    rw [hA]
    by_cases hw : 0 < width
    · have he : firstE [(trE l after width).2, errIf (decide (0 < width)) 15] = 15 := by rw [ht, decide_eq_true hw]; rfl
      have hF : fitRes l width = (0, [], 0, 15) := by unfold fitRes; rw [if_pos hw]
      rw [hF]
      refine (fitted_bad A c after width l w hr hl (by rw [he]; decide)).mono fun r w' ⟨h, hb⟩ => ⟨⟨none, 0, ?_, Rd.nil _ _⟩, hb⟩
      rw [h, he]
      rfl
    · by_cases h5 : 500 < plo l 0
      · have hF : fitRes l width = (0, [], 0, 22) := by unfold fitRes; rw [if_neg hw, if_pos h5]
        rw [hF]
        exact (fitted_break A c after width l w hr hT hw h5).mono fun r w' ⟨h, hb⟩ => ⟨⟨none, 0, h, Rd.nil _ _⟩, hb⟩
      · have hw' : width = 0 := by omega
        subst hw'
        refine (fitted_c A c after l w hr hT (by omega)).mono fun r w' hx => ?_
        obtain ⟨h, hb⟩ := hx
        refine ⟨?_, hb⟩
        have hn0 := hT.n0
        rcases h with ⟨h0, A', c', h, hrd⟩ | ⟨h0, h⟩
        · have hlen := fit_length h0
          have hF : fitRes l 0 = (plo l 0, (fit l (l.length - 1)).1 ++ [(pf l (l.length - 1) * pf l (l.length - 1), 1)], 0, 0) := by unfold fitRes; rw [if_neg hw, if_neg h5, if_pos h0]
          have hlen2 : ((fit l (l.length - 1)).1 ++ [(pf l (l.length - 1) * pf l (l.length - 1), (1 : Int))]).length = l.length := by simp [hlen]; omega
          rw [hF]
          exact ⟨A', c', by rw [h, hlen2], hrd.1⟩
        · have hF : fitRes l 0 = (0, [], ((fit l (l.length - 1)).2.1 : Int), (fit l (l.length - 1)).2.2) := by unfold fitRes; rw [if_neg hw, if_neg h5, if_neg h0]
          rw [hF]
          exact ⟨none, 0, h, Rd.nil _ _⟩
  · have hA : fitAll l after width = (0, [], 0, (trE l after width).2) := by unfold fitAll; rw [if_neg ht]
    have he : firstE [(trE l after width).2, errIf (decide (0 < width)) 15] = (trE l after width).2 := by simp [firstE, ht]
    rw [hA]
    refine (fitted_bad A c after width l w hr hl (by rw [he]; exact ht)).mono fun r w' ⟨h, hb⟩ => ⟨⟨none, 0, ?_, Rd.nil _ _⟩, hb⟩
    rw [h, he]
    rfl
end Go.Proofs.Ytdeehodekilaiaa
