/- Law: indexes. -/
import Derived.Test.YtgnhkjfdicdcmaaF17
namespace Go.Proofs.Ytgnhkjfdicdcmaa
open Go.RowKit
set_option maxRecDepth 100000

theorem Blk.drw {w : World} {g : Nat} {t : TypeId} {cs : List Value} (h : Blk w g t cs) : Blk w.drew g t cs := h
theorem idxR_bad1 {sq f : Int} (h : outB sq 0 9000000 = true) : idxR sq f = ((0, 0), 2) := by
  have : firstE [squareE sq, freqE f] = 2 := by simp [squareE, errIf, h, firstE]
  unfold idxR
  rw [this]
  rfl
theorem idxR_bad2 {sq f : Int} (h : outB sq 0 9000000 = false) (h2 : outB f 1 3000 = true) : idxR sq f = ((0, 0), 2) := by
  have : firstE [squareE sq, freqE f] = 2 := by simp [squareE, freqE, errIf, h, h2, firstE]
  unfold idxR
  rw [this]
  rfl
theorem idxR_in {sq f : Int} (h : outB sq 0 9000000 = false) (h2 : outB f 1 3000 = false) : idxR sq f = if sq < f * f then (idx sq f, 0) else ((0, 0), 12) := by
  have : firstE [squareE sq, freqE f] = 0 := by simp [squareE, freqE, errIf, h, h2, firstE]
  unfold idxR
  rw [this]
  rfl

set_option maxHeartbeats 1000000 in
theorem indexes_c (sq f : Int) (w : World) : Calls Try.prog 7 #[.int .i64 sq, .int .i64 f] w fun r w' => r = .returned (.bool true) ∧ Below w.heap.size w w' := by
  have HI := hide (fun W => indexAt_c sq f W)
  have HW := hide (fun W => within_c sq 0 9000000 W)
  cases h : outB sq 0 9000000
  case true =>
    rw [idxR_bad1 h] at HI
    rw [h] at HW
    go_enter Try.func7, Try.ntmps7
    go_upto_region 3 with (go_at_call 15; refine (awake_c _).mono ?_; rintro e w1 ⟨rfl, hb1⟩)
    go_upto_region 4 with (go_at_call 38; refine (HI.out _).mono ?_; rintro e w2 ⟨rfl, hb2⟩)
    obtain ⟨W2, hW2⟩ : ∃ W, w2.alloc (.cells #[.int .i64 0, .int .i64 0] 54) = W := ⟨_, rfl⟩
    have hP2 : Blk W2 w2.heap.size 54 [.int .i64 0, .int .i64 0] := by rw [← hW2]; exact Blk.new w2 _ [_, _]
    have hB2 : Below w.heap.size w W2 := by rw [← hW2]; exact bel_alloc (tr hb1 hb2 hb1.size) (by have := hb1.size; have := hb2.size; omega) _
    rw [hW2]
    clear hW2 hb1 hb2
    have c0 := hP2.cell 0; have c1 := hP2.cell 1; simp only [List.getElem?_cons_zero, List.getElem?_cons_succ] at c0 c1
    have z2 := hP2.lt
    go_wp2_with (first | (go_at_call 23; refine (HW.out _).mono ?_; rintro e_ w_ ⟨rfl, rfl⟩))
    go_ret
    exact ⟨rfl, hB2⟩
  case false =>
    rw [h] at HW
    have HF := hide (fun W => frequencyErr_c f W)
    cases h2 : outB f 1 3000
    case true =>
      rw [idxR_bad2 h h2] at HI
      rw [show freqE f = 2 by simp [freqE, errIf, h2]] at HF
      go_enter Try.func7, Try.ntmps7
      go_upto_region 3 with (go_at_call 15; refine (awake_c _).mono ?_; rintro e w1 ⟨rfl, hb1⟩)
      go_upto_region 4 with (go_at_call 38; refine (HI.out _).mono ?_; rintro e w2 ⟨rfl, hb2⟩)
      obtain ⟨W2, hW2⟩ : ∃ W, w2.alloc (.cells #[.int .i64 0, .int .i64 0] 54) = W := ⟨_, rfl⟩
      have hP2 : Blk W2 w2.heap.size 54 [.int .i64 0, .int .i64 0] := by rw [← hW2]; exact Blk.new w2 _ [_, _]
      have hB2 : Below w.heap.size w W2 := by rw [← hW2]; exact bel_alloc (tr hb1 hb2 hb1.size) (by have := hb1.size; have := hb2.size; omega) _
      rw [hW2]
      clear hW2 hb1 hb2
      have c0 := hP2.cell 0; have c1 := hP2.cell 1; simp only [List.getElem?_cons_zero, List.getElem?_cons_succ] at c0 c1
      have z2 := hP2.lt
      go_wp2_with (first | (go_at_call 23; refine (HW.out _).mono ?_; rintro e_ w_ ⟨rfl, rfl⟩) | (go_at_call 39; refine (HF.out _).mono ?_; rintro e_ w_ ⟨rfl, rfl⟩))
      go_ret
      exact ⟨rfl, hB2⟩
    case false =>
      rw [idxR_in h h2] at HI
      rw [show freqE f = 0 by simp [freqE, errIf, h2]] at HF
      obtain ⟨s0, s1⟩ := outB_false.1 h
      obtain ⟨f0, f1⟩ := outB_false.1 h2
      have hff := mul_bd (show 0 ≤ f by omega) f1 (show 0 ≤ f by omega) f1
      by_cases hs : sq < f * f
      · rw [if_pos hs] at HI
        have HR := hide (fun W => refIndex_c sq f W f0 f1 s0 hs)
        have hx := idx_bd f0 s0 hs
        have hy := idx_is f0 hs
        generalize idx sq f = g at HI HR hx hy
        obtain ⟨lo, hi⟩ := g
        dsimp only at HI HR hx hy
        have e1 : decide (f * f ≤ sq) = false := decide_eq_false (by omega)
        have W1 := hide (fun W => within_c lo 1000 3000000 W)
        have W2 := hide (fun W => within_c (hi - lo) 0 1 W)
        rw [show outB lo 1000 3000000 = false from outB_false.2 (by omega)] at W1
        rw [show outB (hi - lo) 0 1 = false from outB_false.2 (by omega)] at W2
        have hA : 1000000 * f * f = 1000000 * (f * f) := by rw [Int.mul_assoc]
        have hA2 : 0 ≤ 1000000 * f * f ∧ 1000000 * f * f ≤ 9000000000000 := by omega
        have hl2 := mul_bd (show 0 ≤ lo by omega) (show lo ≤ 3000000 by omega) (show 0 ≤ lo by omega) (show lo ≤ 3000000 by omega)
        have hh2 := mul_bd (show 0 ≤ hi by omega) (show hi ≤ 3000000 by omega) (show 0 ≤ hi by omega) (show hi ≤ 3000000 by omega)
        have C1 := hide (fun W => compare_c (lo * lo) 1 (1000000 * f * f) (f * f - sq) W (by omega) (by omega) (by omega) (by omega) (by omega) (by omega) (by omega) (by omega))
        have C2 := hide (fun W => compare_c (hi * hi) 1 (1000000 * f * f) (f * f - sq) W (by omega) (by omega) (by omega) (by omega) (by omega) (by omega) (by omega) (by omega))
        have hc1 : cmpI (lo * lo * (f * f - sq)) (1000000 * f * f * 1) ≤ 0 := by
          have := hy.low
          unfold cmpI
          split
          · omega
          · rw [if_neg (by omega)]; omega
        have hc2 : 0 ≤ cmpI (hi * hi * (f * f - sq)) (1000000 * f * f * 1) := by
          have := hy.high
          unfold cmpI
          rw [if_neg (by omega)]
          split <;> omega
        generalize cmpI (lo * lo * (f * f - sq)) (1000000 * f * f * 1) = x1 at C1 hc1
        generalize cmpI (hi * hi * (f * f - sq)) (1000000 * f * f * 1) = x2 at C2 hc2
        rw [hA] at C1 C2
        have d1 : decide (x1 ≤ 0) = true := decide_eq_true hc1
        have d2 : decide (0 ≤ x2) = true := decide_eq_true hc2
        have hx1 := hx.1
        have hx2 := hx.2.1
        have hx3 := hx.2.2.1
        have hx4 : hi ≤ 3000000 := by omega
        clear hy hx
        go_enter Try.func7, Try.ntmps7
        go_upto_region 3 with (go_at_call 15; refine (awake_c _).mono ?_; rintro e w1 ⟨rfl, hb1⟩)
        go_upto_region 4 with (go_at_call 38; refine (HI.out _).mono ?_; rintro e w2 ⟨rfl, hb2⟩)
        obtain ⟨W2', hW2⟩ : ∃ W, w2.alloc (.cells #[.int .i64 lo, .int .i64 hi] 54) = W := ⟨_, rfl⟩
        have hP2 : Blk W2' w2.heap.size 54 [.int .i64 lo, .int .i64 hi] := by rw [← hW2]; exact Blk.new w2 _ [_, _]
        have hB2 : Below w.heap.size w W2' := by rw [← hW2]; exact bel_alloc (tr hb1 hb2 hb1.size) (by have := hb1.size; have := hb2.size; omega) _
        rw [hW2]
        clear hW2 hb1 hb2
        have c0 := hP2.cell 0; have c1 := hP2.cell 1; simp only [List.getElem?_cons_zero, List.getElem?_cons_succ] at c0 c1
        have z2 := hP2.lt
        go_upto_region 8 with (first | (go_at_call 23; with_reducible refine (HW.out _).mono ?_; rintro e_ w_ ⟨rfl, rfl⟩) | (go_at_call 39; with_reducible refine (HF.out _).mono ?_; rintro e_ w_ ⟨rfl, rfl⟩))
        have hP2d := hP2.drw
        have u1 : IntKind.i64.wrap (hi - lo) = hi - lo := by simp (disch := omega) only [IntWalk.i64_in]
        have u2 : IntKind.i64.wrap (lo * lo) = lo * lo := by simp (disch := omega) only [IntWalk.i64_in]
        have u3 : IntKind.i64.wrap (hi * hi) = hi * hi := by simp (disch := omega) only [IntWalk.i64_in]
        have u4 : IntKind.i64.wrap (1000000 * f * f) = 1000000 * f * f := by simp (disch := omega) only [IntWalk.i64_in]
        go_cut [67] from 44 to 67 (fun t wx => t = .bool false ∧ Blk wx w2.heap.size 54 [.int .i64 lo, .int .i64 hi] ∧ Below w.heap.size w wx)
        case first =>
          go_region_with (first | (go_at_call 23; with_reducible refine (W1.out _).mono ?_; rintro e_ w_ ⟨rfl, rfl⟩) | (go_at_call 23; with_reducible refine (W2.out _).mono ?_; rintro e_ w_ ⟨rfl, rfl⟩) | (go_at_call 40; with_reducible refine (HR.out _).mono ?_; rintro e_ w3 ⟨rfl, hb3⟩; have hP3 : Blk w3 w2.heap.size 54 [.int .i64 lo, .int .i64 hi] := (by first | exact Blk.bel hP2 hb3 | exact Blk.bel hP2d hb3); have k0 := hP3.cell 0; have k1 := hP3.cell 1; simp only [List.getElem?_cons_zero, List.getElem?_cons_succ] at k0 k1; have z3 := hP3.lt))
          all_goals go_wp2
          all_goals go_meet
          all_goals exact ⟨rfl, hP3, tr hB2 (by first | exact hb3 | exact ⟨hb3.os, hb3.tape, hb3.output, hb3.size, hb3.block⟩) hB2.size⟩
        obtain ⟨rfl, hPc, hBc⟩ := hcut
        have m0 := hPc.cell 0; have m1 := hPc.cell 1; simp only [List.getElem?_cons_zero, List.getElem?_cons_succ] at m0 m1
        have zc := hPc.lt
        clear c0 c1
        go_wp2_with (first | (go_at_call 41; with_reducible refine (C1.out _).mono ?_; rintro e_ w_ ⟨rfl, rfl⟩) | (go_at_call 41; with_reducible refine (C2.out _).mono ?_; rintro e_ w_ ⟨rfl, rfl⟩))
        go_ret
        exact ⟨rfl, hBc⟩
      · rw [if_neg hs] at HI
        have e1 : decide (f * f ≤ sq) = true := decide_eq_true (by omega)
        go_enter Try.func7, Try.ntmps7
        go_upto_region 3 with (go_at_call 15; refine (awake_c _).mono ?_; rintro e w1 ⟨rfl, hb1⟩)
        go_upto_region 4 with (go_at_call 38; refine (HI.out _).mono ?_; rintro e w2 ⟨rfl, hb2⟩)
        obtain ⟨W2, hW2⟩ : ∃ W, w2.alloc (.cells #[.int .i64 0, .int .i64 0] 54) = W := ⟨_, rfl⟩
        have hP2 : Blk W2 w2.heap.size 54 [.int .i64 0, .int .i64 0] := by rw [← hW2]; exact Blk.new w2 _ [_, _]
        have hB2 : Below w.heap.size w W2 := by rw [← hW2]; exact bel_alloc (tr hb1 hb2 hb1.size) (by have := hb1.size; have := hb2.size; omega) _
        rw [hW2]
        clear hW2 hb1 hb2
        have c0 := hP2.cell 0; have c1 := hP2.cell 1; simp only [List.getElem?_cons_zero, List.getElem?_cons_succ] at c0 c1
        have z2 := hP2.lt
        go_wp2_with (first | (go_at_call 23; refine (HW.out _).mono ?_; rintro e_ w_ ⟨rfl, rfl⟩) | (go_at_call 39; refine (HF.out _).mono ?_; rintro e_ w_ ⟨rfl, rfl⟩))
        go_ret
        exact ⟨rfl, hB2⟩
end Go.Proofs.Ytgnhkjfdicdcmaa
