/- The secant law. -/
import Derived.Test.YtkcjiejdjdcbeaaRy43
import Derived.Test.YtkcjiejdjdcbeaaRy37
import Derived.Test.YtkcjiejdjdcbeaaRy40
import Derived.Test.YtkcjiejdjdcbeaaRy31
import Derived.Test.YtkcjiejdjdcbeaaRy33
import Derived.Test.YtkcjiejdjdcbeaaRy34
import Derived.Test.YtkcjiejdjdcbeaaRy32
import Derived.Test.YtkcjiejdjdcbeaaRy28
set_option linter.unusedSimpArgs false
set_option linter.unusedVariables false
set_option linter.unusedSimpArgs false
set_option linter.unusedVariables false
namespace Go.Proofs.Ytkcjiejdjdcbeaa
open Go.RowKit
set_option maxRecDepth 100000

theorem rayE_at {H f n d x : Int} {l : List G} (h : rayE H f n d l = 0) (h1 : 1 ≤ x) (h2 : x ≤ 3000) : rayE H x n d l = 0 := by
  unfold rayE at h ⊢
  rw [firstE_zero, firstE_zero] at h ⊢
  refine ⟨h.1, ?_, h.2.2⟩
  have h3 := h.2.1
  unfold shotE at h3 ⊢
  rw [firstE_zero, firstE_zero] at h3 ⊢
  refine ⟨?_, h3.2.1, h3.2.2⟩
  unfold freqE
  rw [outB_false.2 ⟨h1, h2⟩]
  rfl
theorem cmpQ_le {a b c d : Int} (h : ¬ 0 < cmpQ a b c d) : a * d ≤ c * b := by
  unfold cmpQ at h
  split at h
  · omega
  · split at h <;> omega
def In64R (n : Int) : Prop := -9223372036854775808 ≤ n ∧ n ≤ 9223372036854775807
set_option maxHeartbeats 2000000 in
theorem secantLaw_many (H f n d n1 d1 : Int) (A : Option Addr) (c : Nat) (l : List G) (w : World) (hr : Rd w A (gs l)) (hl : ¬ l.length ≤ 14) (hm : l.length ≤ maxLen) :
    Calls Try.prog 6 #[.agg #[.int .i64 H, .slice A l.length c], .int .i64 f, .agg #[.int .i64 n, .int .i64 d, .int .i64 n1, .int .i64 d1]] w fun r w' => r = .returned (.bool true) ∧ Below w.heap.size w w' := by
  have HFW := hide (fun W => few_c H A c l W)
  rw [decide_eq_false (show ¬ (l.length : Int) ≤ 14 by omega)] at HFW
  obtain ⟨q, hq⟩ : ∃ q, w.heap.size = q := ⟨_, rfl⟩
  obtain ⟨q1, hq1⟩ : ∃ q1, q + 1 = q1 := ⟨_, rfl⟩
  obtain ⟨Wa, hWa⟩ : ∃ Wa, w.alloc (.cells #[.int .i64 H, .slice A l.length c] 24) = Wa := ⟨_, rfl⟩
  have ba : Below w.heap.size w Wa := by rw [← hWa]; exact alloc_bel _ _
  have sa : Wa.heap.size = q1 := by rw [← hWa, ← hq1, ← hq]; simp
  have ka : Blk Wa q 24 [.int .i64 H, .slice A l.length c] := by rw [← hWa, ← hq]; exact Blk.new w _ [_, _]
  obtain ⟨w0, hWb⟩ : ∃ w0, Wa.alloc (.cells #[.int .i64 n, .int .i64 d, .int .i64 n1, .int .i64 d1] 80) = w0 := ⟨_, rfl⟩
  have bb : Below Wa.heap.size Wa w0 := by rw [← hWb]; exact alloc_bel _ _
  have kL0 : Blk w0 q1 80 [.int .i64 n, .int .i64 d, .int .i64 n1, .int .i64 d1] := by rw [← hWb, ← sa]; exact Blk.new Wa _ [_, _, _, _]
  have hAB : (w.alloc (.cells #[.int .i64 H, .slice A l.length c] 24)).alloc (.cells #[.int .i64 n, .int .i64 d, .int .i64 n1, .int .i64 d1] 80) = w0 := by rw [hWa, hWb]
  have HW := hide hAB
  have kS0 := ka.bel bb
  have hr0 := (hr.bel ba).bel bb
  have hB0 : Below q w w0 := by
    rw [hq] at ba
    exact ba.trans (bb.mono (by omega))
  have z0 : q ≤ w0.heap.size := by have := kS0.lt; omega
  clear hAB hWa hWb ba bb ka sa
  have ykS_0 := kS0.lt
  have ykL_0 := kL0.lt
  have s0 := kS0.cell 0; have s1 := kS0.cell 1; simp only [List.getElem?_cons_zero, List.getElem?_cons_succ] at s0 s1
  have t0 := kL0.cell 0; have t1 := kL0.cell 1; have t2 := kL0.cell 2; have t3 := kL0.cell 3; simp only [List.getElem?_cons_zero, List.getElem?_cons_succ] at t0 t1 t2 t3
  go_enter Try.func6, Try.ntmps6
  go_upto_region 1 with fail
  try simp only [World.size_alloc, hq, hq1]
  rw [HW.out]
  go_upto_region 3 with (go_at_call 15; refine (awake_c _).mono ?_; rintro e_ w1 ⟨rfl, hb1⟩)
  have hb0_1 : Below w0.heap.size w0 w1 := hb1
  have kS1 := kS0.bel hb0_1
  have kL1 := kL0.bel hb0_1
  have hr1 := hr0.bel hb0_1
  have hB1 : Below q w w1 := hB0.trans (hb0_1.mono z0)
  have z1 : q ≤ w1.heap.size := by have := hb0_1.size; omega
  have ykS_1 := kS1.lt
  have ykL_1 := kL1.lt
  clear s0 s1 t0 t1 t2 t3 hB0 z0 hb0_1 kS0 kL0 hr0 ykS_0 ykL_0
  have s0 := kS1.cell 0; have s1 := kS1.cell 1; simp only [List.getElem?_cons_zero, List.getElem?_cons_succ] at s0 s1
  have t0 := kL1.cell 0; have t1 := kL1.cell 1; have t2 := kL1.cell 2; have t3 := kL1.cell 3; simp only [List.getElem?_cons_zero, List.getElem?_cons_succ] at t0 t1 t2 t3
  go_wp2_with (first
    | (go_at_call 16; refine (HFW.out _).mono ?_; rintro e_ w2 ⟨rfl, hb2⟩; have kS2 := kS1.bel hb2; have kL2 := kL1.bel hb2; have hr2 := hr1.bel hb2; have hB2 : Below q w w2 := hB1.trans (hb2.mono z1); have z2 : q ≤ w2.heap.size := (by have := hb2.size; omega); have yS2 := kS2.lt; have yL2 := kL2.lt; clear s0 s1 t0 t1 t2 t3; have s0 := kS2.cell 0; have s1 := kS2.cell 1; simp only [List.getElem?_cons_zero, List.getElem?_cons_succ] at s0 s1; have t0 := kL2.cell 0; have t1 := kL2.cell 1; have t2 := kL2.cell 2; have t3 := kL2.cell 3; simp only [List.getElem?_cons_zero, List.getElem?_cons_succ] at t0 t1 t2 t3))
  go_ret
  exact ⟨rfl, by first | exact hB2 | (rw [hq]; exact hB2)⟩
set_option maxHeartbeats 2000000 in
theorem secantLaw_ray (H f n d n1 d1 : Int) (A : Option Addr) (c : Nat) (l : List G) (w : World) (hr : Rd w A (gs l)) (hl : l.length ≤ 14) (g1 : In64R n) (g2 : In64R d) (g3 : In64R n1) (g4 : In64R d1) (he : rayE H f n d l ≠ 0) :
    Calls Try.prog 6 #[.agg #[.int .i64 H, .slice A l.length c], .int .i64 f, .agg #[.int .i64 n, .int .i64 d, .int .i64 n1, .int .i64 d1]] w fun r w' => r = .returned (.bool true) ∧ Below w.heap.size w w' := by
  have HFW := hide (fun W => few_c H A c l W)
  rw [decide_eq_true (show (l.length : Int) ≤ 14 by omega)] at HFW
  have HRE := hide (fun W (h : Rd W A (gs l)) => refRayErr_c H f n d A c l W h (by omega) g1.1 g1.2 g2.2)
  have HLE := hide (fun W => refLaunchErr_c n1 d1 W g3.1 g3.2 g4.2)
  generalize rayE H f n d l = e at HRE he
  have e1 : (e != 0) = true := by simpa using he
  clear he
  obtain ⟨q, hq⟩ : ∃ q, w.heap.size = q := ⟨_, rfl⟩
  obtain ⟨q1, hq1⟩ : ∃ q1, q + 1 = q1 := ⟨_, rfl⟩
  obtain ⟨Wa, hWa⟩ : ∃ Wa, w.alloc (.cells #[.int .i64 H, .slice A l.length c] 24) = Wa := ⟨_, rfl⟩
  have ba : Below w.heap.size w Wa := by rw [← hWa]; exact alloc_bel _ _
  have sa : Wa.heap.size = q1 := by rw [← hWa, ← hq1, ← hq]; simp
  have ka : Blk Wa q 24 [.int .i64 H, .slice A l.length c] := by rw [← hWa, ← hq]; exact Blk.new w _ [_, _]
  obtain ⟨w0, hWb⟩ : ∃ w0, Wa.alloc (.cells #[.int .i64 n, .int .i64 d, .int .i64 n1, .int .i64 d1] 80) = w0 := ⟨_, rfl⟩
  have bb : Below Wa.heap.size Wa w0 := by rw [← hWb]; exact alloc_bel _ _
  have kL0 : Blk w0 q1 80 [.int .i64 n, .int .i64 d, .int .i64 n1, .int .i64 d1] := by rw [← hWb, ← sa]; exact Blk.new Wa _ [_, _, _, _]
  have hAB : (w.alloc (.cells #[.int .i64 H, .slice A l.length c] 24)).alloc (.cells #[.int .i64 n, .int .i64 d, .int .i64 n1, .int .i64 d1] 80) = w0 := by rw [hWa, hWb]
  have HW := hide hAB
  have kS0 := ka.bel bb
  have hr0 := (hr.bel ba).bel bb
  have hB0 : Below q w w0 := by
    rw [hq] at ba
    exact ba.trans (bb.mono (by omega))
  have z0 : q ≤ w0.heap.size := by have := kS0.lt; omega
  clear hAB hWa hWb ba bb ka sa
  have ykS_0 := kS0.lt
  have ykL_0 := kL0.lt
  have s0 := kS0.cell 0; have s1 := kS0.cell 1; simp only [List.getElem?_cons_zero, List.getElem?_cons_succ] at s0 s1
  have t0 := kL0.cell 0; have t1 := kL0.cell 1; have t2 := kL0.cell 2; have t3 := kL0.cell 3; simp only [List.getElem?_cons_zero, List.getElem?_cons_succ] at t0 t1 t2 t3
  go_enter Try.func6, Try.ntmps6
  go_upto_region 1 with fail
  try simp only [World.size_alloc, hq, hq1]
  rw [HW.out]
  go_upto_region 3 with (go_at_call 15; refine (awake_c _).mono ?_; rintro e_ w1 ⟨rfl, hb1⟩)
  have hb0_1 : Below w0.heap.size w0 w1 := hb1
  have kS1 := kS0.bel hb0_1
  have kL1 := kL0.bel hb0_1
  have hr1 := hr0.bel hb0_1
  have hB1 : Below q w w1 := hB0.trans (hb0_1.mono z0)
  have z1 : q ≤ w1.heap.size := by have := hb0_1.size; omega
  have ykS_1 := kS1.lt
  have ykL_1 := kL1.lt
  clear s0 s1 t0 t1 t2 t3 hB0 z0 hb0_1 kS0 kL0 hr0 ykS_0 ykL_0
  have s0 := kS1.cell 0; have s1 := kS1.cell 1; simp only [List.getElem?_cons_zero, List.getElem?_cons_succ] at s0 s1
  have t0 := kL1.cell 0; have t1 := kL1.cell 1; have t2 := kL1.cell 2; have t3 := kL1.cell 3; simp only [List.getElem?_cons_zero, List.getElem?_cons_succ] at t0 t1 t2 t3
  go_wp2_with (first
    | (go_at_call 16; refine (HFW.out _).mono ?_; rintro e_ w2 ⟨rfl, hb2⟩; have kS2 := kS1.bel hb2; have kL2 := kL1.bel hb2; have hr2 := hr1.bel hb2; have hB2 : Below q w w2 := hB1.trans (hb2.mono z1); have z2 : q ≤ w2.heap.size := (by have := hb2.size; omega); have yS2 := kS2.lt; have yL2 := kL2.lt; clear s0 s1 t0 t1 t2 t3; have s0 := kS2.cell 0; have s1 := kS2.cell 1; simp only [List.getElem?_cons_zero, List.getElem?_cons_succ] at s0 s1; have t0 := kL2.cell 0; have t1 := kL2.cell 1; have t2 := kL2.cell 2; have t3 := kL2.cell 3; simp only [List.getElem?_cons_zero, List.getElem?_cons_succ] at t0 t1 t2 t3)
    | (go_at_call 34; refine (HRE.out _ hr2).mono ?_; rintro e_ w3 ⟨rfl, hb3⟩; have kS3 := kS2.bel hb3; have kL3 := kL2.bel hb3; have hr3 := hr2.bel hb3; have hB3 : Below q w w3 := hB2.trans (hb3.mono z2); have z3 : q ≤ w3.heap.size := (by have := hb3.size; omega); have yS3 := kS3.lt; have yL3 := kL3.lt; clear s0 s1 t0 t1 t2 t3; have s0 := kS3.cell 0; have s1 := kS3.cell 1; simp only [List.getElem?_cons_zero, List.getElem?_cons_succ] at s0 s1; have t0 := kL3.cell 0; have t1 := kL3.cell 1; have t2 := kL3.cell 2; have t3 := kL3.cell 3; simp only [List.getElem?_cons_zero, List.getElem?_cons_succ] at t0 t1 t2 t3))
  go_ret
  exact ⟨rfl, by first | exact hB3 | (rw [hq]; exact hB3)⟩
set_option maxHeartbeats 2000000 in
theorem secantLaw_lau (H f n d n1 d1 : Int) (A : Option Addr) (c : Nat) (l : List G) (w : World) (hr : Rd w A (gs l)) (hl : l.length ≤ 14) (g1 : In64R n) (g2 : In64R d) (g3 : In64R n1) (g4 : In64R d1) (he : rayE H f n d l = 0) (hd : launchE n1 d1 ≠ 0) :
    Calls Try.prog 6 #[.agg #[.int .i64 H, .slice A l.length c], .int .i64 f, .agg #[.int .i64 n, .int .i64 d, .int .i64 n1, .int .i64 d1]] w fun r w' => r = .returned (.bool true) ∧ Below w.heap.size w w' := by
  have HFW := hide (fun W => few_c H A c l W)
  rw [decide_eq_true (show (l.length : Int) ≤ 14 by omega)] at HFW
  have HRE := hide (fun W (h : Rd W A (gs l)) => refRayErr_c H f n d A c l W h (by omega) g1.1 g1.2 g2.2)
  have HLE := hide (fun W => refLaunchErr_c n1 d1 W g3.1 g3.2 g4.2)
  rw [he] at HRE
  generalize launchE n1 d1 = e at HLE hd
  have e1 : (e != 0) = true := by simpa using hd
  clear he hd
  obtain ⟨q, hq⟩ : ∃ q, w.heap.size = q := ⟨_, rfl⟩
  obtain ⟨q1, hq1⟩ : ∃ q1, q + 1 = q1 := ⟨_, rfl⟩
  obtain ⟨Wa, hWa⟩ : ∃ Wa, w.alloc (.cells #[.int .i64 H, .slice A l.length c] 24) = Wa := ⟨_, rfl⟩
  have ba : Below w.heap.size w Wa := by rw [← hWa]; exact alloc_bel _ _
  have sa : Wa.heap.size = q1 := by rw [← hWa, ← hq1, ← hq]; simp
  have ka : Blk Wa q 24 [.int .i64 H, .slice A l.length c] := by rw [← hWa, ← hq]; exact Blk.new w _ [_, _]
  obtain ⟨w0, hWb⟩ : ∃ w0, Wa.alloc (.cells #[.int .i64 n, .int .i64 d, .int .i64 n1, .int .i64 d1] 80) = w0 := ⟨_, rfl⟩
  have bb : Below Wa.heap.size Wa w0 := by rw [← hWb]; exact alloc_bel _ _
  have kL0 : Blk w0 q1 80 [.int .i64 n, .int .i64 d, .int .i64 n1, .int .i64 d1] := by rw [← hWb, ← sa]; exact Blk.new Wa _ [_, _, _, _]
  have hAB : (w.alloc (.cells #[.int .i64 H, .slice A l.length c] 24)).alloc (.cells #[.int .i64 n, .int .i64 d, .int .i64 n1, .int .i64 d1] 80) = w0 := by rw [hWa, hWb]
  have HW := hide hAB
  have kS0 := ka.bel bb
  have hr0 := (hr.bel ba).bel bb
  have hB0 : Below q w w0 := by
    rw [hq] at ba
    exact ba.trans (bb.mono (by omega))
  have z0 : q ≤ w0.heap.size := by have := kS0.lt; omega
  clear hAB hWa hWb ba bb ka sa
  have ykS_0 := kS0.lt
  have ykL_0 := kL0.lt
  have s0 := kS0.cell 0; have s1 := kS0.cell 1; simp only [List.getElem?_cons_zero, List.getElem?_cons_succ] at s0 s1
  have t0 := kL0.cell 0; have t1 := kL0.cell 1; have t2 := kL0.cell 2; have t3 := kL0.cell 3; simp only [List.getElem?_cons_zero, List.getElem?_cons_succ] at t0 t1 t2 t3
  go_enter Try.func6, Try.ntmps6
  go_upto_region 1 with fail
  try simp only [World.size_alloc, hq, hq1]
  rw [HW.out]
  go_upto_region 3 with (go_at_call 15; refine (awake_c _).mono ?_; rintro e_ w1 ⟨rfl, hb1⟩)
  have hb0_1 : Below w0.heap.size w0 w1 := hb1
  have kS1 := kS0.bel hb0_1
  have kL1 := kL0.bel hb0_1
  have hr1 := hr0.bel hb0_1
  have hB1 : Below q w w1 := hB0.trans (hb0_1.mono z0)
  have z1 : q ≤ w1.heap.size := by have := hb0_1.size; omega
  have ykS_1 := kS1.lt
  have ykL_1 := kL1.lt
  clear s0 s1 t0 t1 t2 t3 hB0 z0 hb0_1 kS0 kL0 hr0 ykS_0 ykL_0
  have s0 := kS1.cell 0; have s1 := kS1.cell 1; simp only [List.getElem?_cons_zero, List.getElem?_cons_succ] at s0 s1
  have t0 := kL1.cell 0; have t1 := kL1.cell 1; have t2 := kL1.cell 2; have t3 := kL1.cell 3; simp only [List.getElem?_cons_zero, List.getElem?_cons_succ] at t0 t1 t2 t3
  go_wp2_with (first
    | (go_at_call 16; refine (HFW.out _).mono ?_; rintro e_ w2 ⟨rfl, hb2⟩; have kS2 := kS1.bel hb2; have kL2 := kL1.bel hb2; have hr2 := hr1.bel hb2; have hB2 : Below q w w2 := hB1.trans (hb2.mono z1); have z2 : q ≤ w2.heap.size := (by have := hb2.size; omega); have yS2 := kS2.lt; have yL2 := kL2.lt; clear s0 s1 t0 t1 t2 t3; have s0 := kS2.cell 0; have s1 := kS2.cell 1; simp only [List.getElem?_cons_zero, List.getElem?_cons_succ] at s0 s1; have t0 := kL2.cell 0; have t1 := kL2.cell 1; have t2 := kL2.cell 2; have t3 := kL2.cell 3; simp only [List.getElem?_cons_zero, List.getElem?_cons_succ] at t0 t1 t2 t3)
    | (go_at_call 34; refine (HRE.out _ hr2).mono ?_; rintro e_ w3 ⟨rfl, hb3⟩; have kS3 := kS2.bel hb3; have kL3 := kL2.bel hb3; have hr3 := hr2.bel hb3; have hB3 : Below q w w3 := hB2.trans (hb3.mono z2); have z3 : q ≤ w3.heap.size := (by have := hb3.size; omega); have yS3 := kS3.lt; have yL3 := kL3.lt; clear s0 s1 t0 t1 t2 t3; have s0 := kS3.cell 0; have s1 := kS3.cell 1; simp only [List.getElem?_cons_zero, List.getElem?_cons_succ] at s0 s1; have t0 := kL3.cell 0; have t1 := kL3.cell 1; have t2 := kL3.cell 2; have t3 := kL3.cell 3; simp only [List.getElem?_cons_zero, List.getElem?_cons_succ] at t0 t1 t2 t3)
    | (go_at_call 27; refine (HLE.out _).mono ?_; rintro e_ w4 ⟨rfl, hb4⟩; have kS4 := kS3.bel hb4; have kL4 := kL3.bel hb4; have hr4 := hr3.bel hb4; have hB4 : Below q w w4 := hB3.trans (hb4.mono z3); have z4 : q ≤ w4.heap.size := (by have := hb4.size; omega); have yS4 := kS4.lt; have yL4 := kL4.lt; clear s0 s1 t0 t1 t2 t3; have s0 := kS4.cell 0; have s1 := kS4.cell 1; simp only [List.getElem?_cons_zero, List.getElem?_cons_succ] at s0 s1; have t0 := kL4.cell 0; have t1 := kL4.cell 1; have t2 := kL4.cell 2; have t3 := kL4.cell 3; simp only [List.getElem?_cons_zero, List.getElem?_cons_succ] at t0 t1 t2 t3))
  go_ret
  exact ⟨rfl, by first | exact hB4 | (rw [hq]; exact hB4)⟩
set_option maxHeartbeats 2000000 in
theorem secantLaw_cmp (H f n d n1 d1 : Int) (A : Option Addr) (c : Nat) (l : List G) (w : World) (hr : Rd w A (gs l)) (hl : l.length ≤ 14) (g1 : In64R n) (g2 : In64R d) (g3 : In64R n1) (g4 : In64R d1) (he : rayE H f n d l = 0) (hd : launchE n1 d1 = 0) (hcm : 0 < cmpQ n d n1 d1) :
    Calls Try.prog 6 #[.agg #[.int .i64 H, .slice A l.length c], .int .i64 f, .agg #[.int .i64 n, .int .i64 d, .int .i64 n1, .int .i64 d1]] w fun r w' => r = .returned (.bool true) ∧ Below w.heap.size w w' := by
  have HFW := hide (fun W => few_c H A c l W)
  rw [decide_eq_true (show (l.length : Int) ≤ 14 by omega)] at HFW
  have HRE := hide (fun W (h : Rd W A (gs l)) => refRayErr_c H f n d A c l W h (by omega) g1.1 g1.2 g2.2)
  have HLE := hide (fun W => refLaunchErr_c n1 d1 W g3.1 g3.2 g4.2)
  have o1 := okR he
  have o2 := launchE_zero hd
  have HCM := hide (fun W => cmp_c n d n1 d1 W (by have := o1.n0; omega) (by have := o1.n1; have := o1.d1; omega) (by have := o1.d0; omega) (by have := o1.d1; omega) (by omega) (by omega) (by omega) (by omega))
  have HCQ := hide (@cmpQ_le n d n1 d1)
  rw [he] at HRE
  rw [hd] at HLE
  clear HCQ
  generalize cmpQ n d n1 d1 = e at HCM hcm
  clear he hd o1 o2
  obtain ⟨q, hq⟩ : ∃ q, w.heap.size = q := ⟨_, rfl⟩
  obtain ⟨q1, hq1⟩ : ∃ q1, q + 1 = q1 := ⟨_, rfl⟩
  obtain ⟨Wa, hWa⟩ : ∃ Wa, w.alloc (.cells #[.int .i64 H, .slice A l.length c] 24) = Wa := ⟨_, rfl⟩
  have ba : Below w.heap.size w Wa := by rw [← hWa]; exact alloc_bel _ _
  have sa : Wa.heap.size = q1 := by rw [← hWa, ← hq1, ← hq]; simp
  have ka : Blk Wa q 24 [.int .i64 H, .slice A l.length c] := by rw [← hWa, ← hq]; exact Blk.new w _ [_, _]
  obtain ⟨w0, hWb⟩ : ∃ w0, Wa.alloc (.cells #[.int .i64 n, .int .i64 d, .int .i64 n1, .int .i64 d1] 80) = w0 := ⟨_, rfl⟩
  have bb : Below Wa.heap.size Wa w0 := by rw [← hWb]; exact alloc_bel _ _
  have kL0 : Blk w0 q1 80 [.int .i64 n, .int .i64 d, .int .i64 n1, .int .i64 d1] := by rw [← hWb, ← sa]; exact Blk.new Wa _ [_, _, _, _]
  have hAB : (w.alloc (.cells #[.int .i64 H, .slice A l.length c] 24)).alloc (.cells #[.int .i64 n, .int .i64 d, .int .i64 n1, .int .i64 d1] 80) = w0 := by rw [hWa, hWb]
  have HW := hide hAB
  have kS0 := ka.bel bb
  have hr0 := (hr.bel ba).bel bb
  have hB0 : Below q w w0 := by
    rw [hq] at ba
    exact ba.trans (bb.mono (by omega))
  have z0 : q ≤ w0.heap.size := by have := kS0.lt; omega
  clear hAB hWa hWb ba bb ka sa
  have ykS_0 := kS0.lt
  have ykL_0 := kL0.lt
  have s0 := kS0.cell 0; have s1 := kS0.cell 1; simp only [List.getElem?_cons_zero, List.getElem?_cons_succ] at s0 s1
  have t0 := kL0.cell 0; have t1 := kL0.cell 1; have t2 := kL0.cell 2; have t3 := kL0.cell 3; simp only [List.getElem?_cons_zero, List.getElem?_cons_succ] at t0 t1 t2 t3
  go_enter Try.func6, Try.ntmps6
  go_upto_region 1 with fail
  try simp only [World.size_alloc, hq, hq1]
  rw [HW.out]
  go_upto_region 3 with (go_at_call 15; refine (awake_c _).mono ?_; rintro e_ w1 ⟨rfl, hb1⟩)
  have hb0_1 : Below w0.heap.size w0 w1 := hb1
  have kS1 := kS0.bel hb0_1
  have kL1 := kL0.bel hb0_1
  have hr1 := hr0.bel hb0_1
  have hB1 : Below q w w1 := hB0.trans (hb0_1.mono z0)
  have z1 : q ≤ w1.heap.size := by have := hb0_1.size; omega
  have ykS_1 := kS1.lt
  have ykL_1 := kL1.lt
  clear s0 s1 t0 t1 t2 t3 hB0 z0 hb0_1 kS0 kL0 hr0 ykS_0 ykL_0
  have s0 := kS1.cell 0; have s1 := kS1.cell 1; simp only [List.getElem?_cons_zero, List.getElem?_cons_succ] at s0 s1
  have t0 := kL1.cell 0; have t1 := kL1.cell 1; have t2 := kL1.cell 2; have t3 := kL1.cell 3; simp only [List.getElem?_cons_zero, List.getElem?_cons_succ] at t0 t1 t2 t3
  go_wp2_with (first
    | (go_at_call 16; refine (HFW.out _).mono ?_; rintro e_ w2 ⟨rfl, hb2⟩; have kS2 := kS1.bel hb2; have kL2 := kL1.bel hb2; have hr2 := hr1.bel hb2; have hB2 : Below q w w2 := hB1.trans (hb2.mono z1); have z2 : q ≤ w2.heap.size := (by have := hb2.size; omega); have yS2 := kS2.lt; have yL2 := kL2.lt; clear s0 s1 t0 t1 t2 t3; have s0 := kS2.cell 0; have s1 := kS2.cell 1; simp only [List.getElem?_cons_zero, List.getElem?_cons_succ] at s0 s1; have t0 := kL2.cell 0; have t1 := kL2.cell 1; have t2 := kL2.cell 2; have t3 := kL2.cell 3; simp only [List.getElem?_cons_zero, List.getElem?_cons_succ] at t0 t1 t2 t3)
    | (go_at_call 34; refine (HRE.out _ hr2).mono ?_; rintro e_ w3 ⟨rfl, hb3⟩; have kS3 := kS2.bel hb3; have kL3 := kL2.bel hb3; have hr3 := hr2.bel hb3; have hB3 : Below q w w3 := hB2.trans (hb3.mono z2); have z3 : q ≤ w3.heap.size := (by have := hb3.size; omega); have yS3 := kS3.lt; have yL3 := kL3.lt; clear s0 s1 t0 t1 t2 t3; have s0 := kS3.cell 0; have s1 := kS3.cell 1; simp only [List.getElem?_cons_zero, List.getElem?_cons_succ] at s0 s1; have t0 := kL3.cell 0; have t1 := kL3.cell 1; have t2 := kL3.cell 2; have t3 := kL3.cell 3; simp only [List.getElem?_cons_zero, List.getElem?_cons_succ] at t0 t1 t2 t3)
    | (go_at_call 27; refine (HLE.out _).mono ?_; rintro e_ w4 ⟨rfl, hb4⟩; have kS4 := kS3.bel hb4; have kL4 := kL3.bel hb4; have hr4 := hr3.bel hb4; have hB4 : Below q w w4 := hB3.trans (hb4.mono z3); have z4 : q ≤ w4.heap.size := (by have := hb4.size; omega); have yS4 := kS4.lt; have yL4 := kL4.lt; clear s0 s1 t0 t1 t2 t3; have s0 := kS4.cell 0; have s1 := kS4.cell 1; simp only [List.getElem?_cons_zero, List.getElem?_cons_succ] at s0 s1; have t0 := kL4.cell 0; have t1 := kL4.cell 1; have t2 := kL4.cell 2; have t3 := kL4.cell 3; simp only [List.getElem?_cons_zero, List.getElem?_cons_succ] at t0 t1 t2 t3)
    | (go_at_call 43; refine (HCM.out _).mono ?_; rintro e_ w5 ⟨rfl, hb5⟩; have hB5 : Below q w w5 := hB4.trans (hb5.mono z4)))
  go_ret
  exact ⟨rfl, by first | exact hB5 | (rw [hq]; exact hB5)⟩
set_option maxHeartbeats 16000000 in
theorem secantLaw_ok (H f n d n1 d1 : Int) (A : Option Addr) (c : Nat) (l : List G) (w : World) (hr : Rd w A (gs l)) (hl : l.length ≤ 14) (g1 : In64R n) (g2 : In64R d) (g3 : In64R n1) (g4 : In64R d1) (he : rayE H f n d l = 0) (hd : launchE n1 d1 = 0) (hcm : ¬ 0 < cmpQ n d n1 d1) :
    Calls Try.prog 6 #[.agg #[.int .i64 H, .slice A l.length c], .int .i64 f, .agg #[.int .i64 n, .int .i64 d, .int .i64 n1, .int .i64 d1]] w fun r w' => r = .returned (.bool true) ∧ Below w.heap.size w w' := by
  have HFW := hide (fun W => few_c H A c l W)
  rw [decide_eq_true (show (l.length : Int) ≤ 14 by omega)] at HFW
  have HRE := hide (fun W (h : Rd W A (gs l)) => refRayErr_c H f n d A c l W h (by omega) g1.1 g1.2 g2.2)
  have HLE := hide (fun W => refLaunchErr_c n1 d1 W g3.1 g3.2 g4.2)
  have o1 := okR he
  have o2 := launchE_zero hd
  have HCM := hide (fun W => cmp_c n d n1 d1 W (by have := o1.n0; omega) (by have := o1.n1; have := o1.d1; omega) (by have := o1.d0; omega) (by have := o1.d1; omega) (by omega) (by omega) (by omega) (by omega))
  have HCQ := hide (@cmpQ_le n d n1 d1)
  have hNN := HCQ.out (by omega)
  have hgr := grsQ_ok o1.ok
  have HCP := hide (fun W (h : Rd W A (gs l)) => copySky_c H A c l W h (by omega))
  have hsk : (skyE H l).2 = 0 := by have h := he; unfold rayE at h; rw [firstE_zero] at h; exact h.1
  have hla : launchE n d = 0 := by have h := he; unfold rayE at h; rw [firstE_zero, firstE_zero] at h; have h2 := h.2.1; unfold shotE at h2; rw [firstE_zero, firstE_zero] at h2; exact h2.2.1
  have hs0 : ∀ a b, launchE a b = 0 → secE H a b l = 0 := fun a b h => by unfold secE; rw [hsk, h]; rfl
  have HS1 := hide (fun A' c' W (h : Rd W A' (gs l)) => secantOf_c H n d A' c' l W h (by omega) g1.1 g1.2 g2.2)
  rw [show secQ H n d l = (min (rootN (grsQ l * d / (d - n)).toNat : Int) 3000, 0) by unfold secQ; rw [if_neg (by rw [hs0 _ _ hla]; simp)]] at HS1
  have HS2 := hide (fun A' c' W (h : Rd W A' (gs l)) => secantOf_c H n1 d1 A' c' l W h (by omega) g3.1 g3.2 g4.2)
  rw [show secQ H n1 d1 l = (min (rootN (grsQ l * d1 / (d1 - n1)).toNat : Int) 3000, 0) by unfold secQ; rw [if_neg (by rw [hs0 _ _ hd]; simp)]] at HS2
  have HS0 := hide (fun A' c' W (h : Rd W A' (gs l)) => secantOf_c H 0 1 A' c' l W h (by omega) (by decide) (by decide) (by decide))
  rw [show secQ H 0 1 l = ((rootN (grsQ l).toNat : Int), 0) by unfold secQ; rw [if_neg (by rw [hs0 0 1 (by decide +kernel)]; simp), sec_one o1.ok]] at HS0
  have HCR := hide (fun A' c' W (h : Rd W A' (gs l)) => criticalOf_c H A' c' l W h (by omega))
  rw [show critQ H l = ((rootN (grsQ l).toNat : Int), 0) by unfold critQ; rw [if_neg (by rw [hsk]; simp)]] at HCR
  have q1' : (0 : Int) ≤ grsQ l * d / (d - n) := Int.ediv_nonneg (Int.mul_nonneg hgr.1 (by have := o1.d0; omega)) (by have := o1.n1; omega)
  have hmn : min (rootN (grsQ l * d / (d - n)).toNat : Int) 3000 ≤ min (rootN (grsQ l * d1 / (d1 - n1)).toNat : Int) 3000 := by
    have := root_mono (sec_mono hgr.1 o1.d0 o1.n1 (by omega) (by omega) hNN) q1'
    omega
  have hkm : (rootN (grsQ l).toNat : Int) ≤ min (rootN (grsQ l * d / (d - n)).toNat : Int) 3000 := by
    rw [← sec_one o1.ok]
    have := root_mono (sec_mono (n := 0) (d := 1) hgr.1 (by omega) (by omega) o1.d0 o1.n1 (by have := o1.n0; omega)) (by omega)
    omega
  have HAP : Hid (∀ x, 1 ≤ x → x ≤ 3000 → if x ≤ min (rootN (grsQ l * d / (d - n)).toNat : Int) 3000 then (∃ a1 a2 z1 z2 : Int, Hid (∀ A' c' W, Rd W A' (gs l) → l.length ≤ c' → Calls Try.prog 30 #[.agg #[.int .i64 H, .slice A' l.length c'], .int .i64 x, .agg #[.int .i64 n, .int .i64 d]] W fun r w' => r = .returned (.tuple #[.agg #[.bool true, .int .i64 a1, .int .i64 a2], .int .i64 0]) ∧ Below W.heap.size W w') ∧ Hid (∀ A' c' W, Rd W A' (gs l) → l.length ≤ c' → Calls Try.prog 32 #[.agg #[.int .i64 H, .slice A' l.length c'], .int .i64 x, .agg #[.int .i64 n, .int .i64 d]] W fun r w' => r = .returned (.tuple #[.agg #[.int .i64 z1, .int .i64 z2], .int .i64 0]) ∧ Below W.heap.size W w'))
      else (Hid (∀ A' c' W, Rd W A' (gs l) → l.length ≤ c' → Calls Try.prog 30 #[.agg #[.int .i64 H, .slice A' l.length c'], .int .i64 x, .agg #[.int .i64 n, .int .i64 d]] W fun r w' => r = .returned (.tuple #[.agg #[.bool false, .int .i64 0, .int .i64 0], .int .i64 0]) ∧ Below W.heap.size W w') ∧ Hid (∀ A' c' W, Rd W A' (gs l) → l.length ≤ c' → Calls Try.prog 32 #[.agg #[.int .i64 H, .slice A' l.length c'], .int .i64 x, .agg #[.int .i64 n, .int .i64 d]] W fun r w' => r = .returned (.tuple #[.agg #[.int .i64 0, .int .i64 0], .int .i64 21]) ∧ Below W.heap.size W w'))) := by
    intro x h1 h2
    have hrx := rayE_at he h1 h2
    have hpi := pas_root (f := x) (n := n) (d := d) (l := l) o1.ok o1.l0 h1 h2 o1.d0 o1.n1
    have hple := pasN_le x n d l
    have ca := fun A' c' W (h : Rd W A' (gs l)) h' => apexOf_c H x n d A' c' l W h (by omega) h' g1.1 g1.2 g2.2
    have cg := fun A' c' W (h : Rd W A' (gs l)) h' => groundOf_c H x n d A' c' l W h (by omega) h' g1.1 g1.2 g2.2
    split
    · rename_i hx
      have hlt := hpi.2 hx
      rw [show apxQ H x n d l = ((true, (pasN x n d l : Int), brdQ H (l.take (pasN x n d l))), 0) by unfold apxQ; rw [if_neg (by rw [hrx]; simp), if_neg (by omega)]] at ca
      rw [show grdE H x n d l = (grdQ H x n d l, 0) by unfold grdE; rw [if_neg (by rw [hrx]; simp), if_neg (by omega)]] at cg
      exact ⟨_, _, _, _, ca, cg⟩
    · rename_i hx
      have hlt : ¬ pasN x n d l < l.length := fun h => hx (hpi.1 h)
      rw [show apxQ H x n d l = ((false, 0, 0), 0) by unfold apxQ; rw [if_neg (by rw [hrx]; simp), if_pos (by omega)]] at ca
      rw [show grdE H x n d l = ((0, 0), 21) by unfold grdE; rw [if_neg (by rw [hrx]; simp), if_pos (by omega)]] at cg
      exact ⟨ca, cg⟩
  rw [he] at HRE
  rw [hd] at HLE
  have hm0 : (0 : Int) ≤ min (rootN (grsQ l * d / (d - n)).toNat : Int) 3000 := by omega
  have hm3 : min (rootN (grsQ l * d / (d - n)).toNat : Int) 3000 ≤ 3000 := by omega
  have hw0 : (0 : Int) ≤ min (rootN (grsQ l * d1 / (d1 - n1)).toNat : Int) 3000 := by omega
  have hw3 : min (rootN (grsQ l * d1 / (d1 - n1)).toNat : Int) 3000 ≤ 3000 := by omega
  dsimp only at HS1 HS2 HS0 HCR
  generalize min (rootN (grsQ l * d / (d - n)).toNat : Int) 3000 = m at HS1 hmn hkm HAP hm0 hm3
  generalize min (rootN (grsQ l * d1 / (d1 - n1)).toNat : Int) 3000 = mm at HS2 hmn hw0 hw3
  generalize (rootN (grsQ l).toNat : Int) = kk at HS0 HCR hkm
  have HW1 : Hid (outB m 0 3000 = false) := outB_false.2 ⟨hm0, hm3⟩
  have HW2 : Hid (outB mm 0 3000 = false) := outB_false.2 ⟨hw0, hw3⟩
  have n1' : ¬ mm < m := by omega
  have n2' : ¬ m < kk := by omega
  have hcq : ¬ 0 < cmpQ n d n1 d1 := hcm
  generalize cmpQ n d n1 d1 = e at HCM hcq
  clear he hd o1 o2 HCQ hNN hgr hsk hla hs0 q1' hmn hkm hcm hw0 hw3
  obtain ⟨q, hq⟩ : ∃ q, w.heap.size = q := ⟨_, rfl⟩
  obtain ⟨q1, hq1⟩ : ∃ q1, q + 1 = q1 := ⟨_, rfl⟩
  obtain ⟨Wa, hWa⟩ : ∃ Wa, w.alloc (.cells #[.int .i64 H, .slice A l.length c] 24) = Wa := ⟨_, rfl⟩
  have ba : Below w.heap.size w Wa := by rw [← hWa]; exact alloc_bel _ _
  have sa : Wa.heap.size = q1 := by rw [← hWa, ← hq1, ← hq]; simp
  have ka : Blk Wa q 24 [.int .i64 H, .slice A l.length c] := by rw [← hWa, ← hq]; exact Blk.new w _ [_, _]
  obtain ⟨w0, hWb⟩ : ∃ w0, Wa.alloc (.cells #[.int .i64 n, .int .i64 d, .int .i64 n1, .int .i64 d1] 80) = w0 := ⟨_, rfl⟩
  have bb : Below Wa.heap.size Wa w0 := by rw [← hWb]; exact alloc_bel _ _
  have kL0 : Blk w0 q1 80 [.int .i64 n, .int .i64 d, .int .i64 n1, .int .i64 d1] := by rw [← hWb, ← sa]; exact Blk.new Wa _ [_, _, _, _]
  have hAB : (w.alloc (.cells #[.int .i64 H, .slice A l.length c] 24)).alloc (.cells #[.int .i64 n, .int .i64 d, .int .i64 n1, .int .i64 d1] 80) = w0 := by rw [hWa, hWb]
  have HW := hide hAB
  have kS0 := ka.bel bb
  have hr0 := (hr.bel ba).bel bb
  have hB0 : Below q w w0 := by
    rw [hq] at ba
    exact ba.trans (bb.mono (by omega))
  have z0 : q ≤ w0.heap.size := by have := kS0.lt; omega
  clear hAB hWa hWb ba bb ka sa
  have ykS_0 := kS0.lt
  have ykL_0 := kL0.lt
  have s0 := kS0.cell 0; have s1 := kS0.cell 1; simp only [List.getElem?_cons_zero, List.getElem?_cons_succ] at s0 s1
  have t0 := kL0.cell 0; have t1 := kL0.cell 1; have t2 := kL0.cell 2; have t3 := kL0.cell 3; simp only [List.getElem?_cons_zero, List.getElem?_cons_succ] at t0 t1 t2 t3
  go_enter Try.func6, Try.ntmps6
  go_upto_region 1 with fail
  try simp only [World.size_alloc, hq, hq1]
  rw [HW.out]
  go_upto_region 3 with (go_at_call 15; refine (awake_c _).mono ?_; rintro e_ w1 ⟨rfl, hb1⟩)
  have hb0_1 : Below w0.heap.size w0 w1 := hb1
  have kS1 := kS0.bel hb0_1
  have kL1 := kL0.bel hb0_1
  have hr1 := hr0.bel hb0_1
  have hB1 : Below q w w1 := hB0.trans (hb0_1.mono z0)
  have z1 : q ≤ w1.heap.size := by have := hb0_1.size; omega
  have ykS_1 := kS1.lt
  have ykL_1 := kL1.lt
  clear s0 s1 t0 t1 t2 t3 hB0 z0 hb0_1 kS0 kL0 hr0 ykS_0 ykL_0
  have s0 := kS1.cell 0; have s1 := kS1.cell 1; simp only [List.getElem?_cons_zero, List.getElem?_cons_succ] at s0 s1
  have t0 := kL1.cell 0; have t1 := kL1.cell 1; have t2 := kL1.cell 2; have t3 := kL1.cell 3; simp only [List.getElem?_cons_zero, List.getElem?_cons_succ] at t0 t1 t2 t3
  go_upto_region 5 with (first
    | (go_at_call 16; refine (HFW.out _).mono ?_; rintro e_ w2 ⟨rfl, hb2⟩; have kS2 := kS1.bel hb2; have kL2 := kL1.bel hb2; have hr2 := hr1.bel hb2; have hB2 : Below q w w2 := hB1.trans (hb2.mono z1); have z2 : q ≤ w2.heap.size := (by have := hb2.size; omega); have yS2 := kS2.lt; have yL2 := kL2.lt; clear s0 s1 t0 t1 t2 t3; have s0 := kS2.cell 0; have s1 := kS2.cell 1; simp only [List.getElem?_cons_zero, List.getElem?_cons_succ] at s0 s1; have t0 := kL2.cell 0; have t1 := kL2.cell 1; have t2 := kL2.cell 2; have t3 := kL2.cell 3; simp only [List.getElem?_cons_zero, List.getElem?_cons_succ] at t0 t1 t2 t3)
    | (go_at_call 34; refine (HRE.out _ hr2).mono ?_; rintro e_ w3 ⟨rfl, hb3⟩; have kS3 := kS2.bel hb3; have kL3 := kL2.bel hb3; have hr3 := hr2.bel hb3; have hB3 : Below q w w3 := hB2.trans (hb3.mono z2); have z3 : q ≤ w3.heap.size := (by have := hb3.size; omega); have yS3 := kS3.lt; have yL3 := kL3.lt; clear s0 s1 t0 t1 t2 t3; have s0 := kS3.cell 0; have s1 := kS3.cell 1; simp only [List.getElem?_cons_zero, List.getElem?_cons_succ] at s0 s1; have t0 := kL3.cell 0; have t1 := kL3.cell 1; have t2 := kL3.cell 2; have t3 := kL3.cell 3; simp only [List.getElem?_cons_zero, List.getElem?_cons_succ] at t0 t1 t2 t3)
    | (go_at_call 27; refine (HLE.out _).mono ?_; rintro e_ w4 ⟨rfl, hb4⟩; have kS4 := kS3.bel hb4; have kL4 := kL3.bel hb4; have hr4 := hr3.bel hb4; have hB4 : Below q w w4 := hB3.trans (hb4.mono z3); have z4 : q ≤ w4.heap.size := (by have := hb4.size; omega); have yS4 := kS4.lt; have yL4 := kL4.lt; clear s0 s1 t0 t1 t2 t3; have s0 := kS4.cell 0; have s1 := kS4.cell 1; simp only [List.getElem?_cons_zero, List.getElem?_cons_succ] at s0 s1; have t0 := kL4.cell 0; have t1 := kL4.cell 1; have t2 := kL4.cell 2; have t3 := kL4.cell 3; simp only [List.getElem?_cons_zero, List.getElem?_cons_succ] at t0 t1 t2 t3)
    | (go_at_call 43; refine (HCM.out _).mono ?_; rintro e_ w5 ⟨rfl, hb5⟩; have hbX := hb5))
  clear kS2 kS3 kL2 kL3 hr2 hr3 hB2 hB3 z2 z3 yS2 yS3 yL2 yL3 hb2 hb3 hb4 kS1 kL1 hr1 hB1 z1 ykS_1 ykL_1 HRE HLE HCM HFW
  have ykS_4 := yS4
  have ykL_4 := yL4
  clear yS4 yL4
  have hb4_5 : Below w4.heap.size w4 w5 := hb5
  have kS5 := kS4.bel hb4_5
  have kL5 := kL4.bel hb4_5
  have hr5 := hr4.bel hb4_5
  have hB5 : Below q w w5 := hB4.trans (hb4_5.mono z4)
  have z5 : q ≤ w5.heap.size := by have := hb4_5.size; omega
  have ykS_5 := kS5.lt
  have ykL_5 := kL5.lt
  clear s0 s1 t0 t1 t2 t3 hB4 z4 hb4_5 kS4 kL4 hr4 ykS_4 ykL_4
  have s0 := kS5.cell 0; have s1 := kS5.cell 1; simp only [List.getElem?_cons_zero, List.getElem?_cons_succ] at s0 s1
  have t0 := kL5.cell 0; have t1 := kL5.cell 1; have t2 := kL5.cell 2; have t3 := kL5.cell 3; simp only [List.getElem?_cons_zero, List.getElem?_cons_succ] at t0 t1 t2 t3
  clear hbX
  have hSd : (∀ b o, b < w5.heap.size → w5.drew.cell? ⟨b, o, none⟩ = w5.cell? ⟨b, o, none⟩) ∧ Below w5.heap.size w5 w5.drew := kp (Below.refl _ _).drew
  refine wp_region_held (S := fun w' => (∀ b o, b < w5.heap.size → w'.cell? ⟨b, o, none⟩ = w5.cell? ⟨b, o, none⟩) ∧ Below w5.heap.size w5 w') (by kernel_rfl) ?_
  change wpAnyH _ _ _ _ _ _ _ _ w5.drew
  refine wpAnyH_take (i := 0) (v := ?_) rfl (by kernel_rfl) (by kernel_rfl) (by kernel_rfl) (fun _ _ _ h => h) (Or.inl ⟨by kernel_rfl, ?_⟩) (by assumption) ?_
  rotate_left 1
  · (intro w hSw; obtain ⟨hk1, hk2⟩ := hSw; go_simp <;> with_reducible rfl)
  simp only [Act.put, List.getElem_toArray, List.getElem_cons_zero, List.setIfInBounds_toArray, List.set_cons_zero, List.set_cons_succ]
  refine wpAnyH_take (i := 2) (v := ?_) rfl (by kernel_rfl) (by kernel_rfl) (by kernel_rfl) (fun _ _ _ h => h) (Or.inl ⟨by kernel_rfl, ?_⟩) (by assumption) ?_
  rotate_left 1
  · (intro w hSw; obtain ⟨hk1, hk2⟩ := hSw; go_simp <;> with_reducible rfl)
  simp only [Act.put, List.getElem_toArray, List.getElem_cons_zero, List.getElem_cons_succ, List.setIfInBounds_toArray, List.set_cons_zero, List.set_cons_succ]
  refine wpAnyH_take (i := 3) (v := ?_) rfl (by kernel_rfl) (by kernel_rfl) (by kernel_rfl) (fun _ _ _ h => h) (Or.inl ⟨by kernel_rfl, ?_⟩) (by assumption) ?_
  rotate_left 1
  · (intro w hSw; obtain ⟨hk1, hk2⟩ := hSw; go_simp <;> with_reducible rfl)
  simp only [Act.put, List.getElem_toArray, List.getElem_cons_zero, List.getElem_cons_succ, List.setIfInBounds_toArray, List.set_cons_zero, List.set_cons_succ]
  refine nextH (i := 1) (by kernel_rfl) rfl (fun K hK => ?_)
  go_simp
  refine (HCP.out _ (hr5.bel hSd.2)).mono ?_
  rintro e_ wp ⟨⟨Ap, cp, rfl, rap, rcp⟩, hbp⟩
  have hS' := kp (bel_tr hSd.2 hSd.2.size hbp)
  try dsimp only
  refine hK _ _ hS' ?_
  clear hK K hSd
  have hSd := hS'
  clear hS'
  refine nextH (i := 4) (by kernel_rfl) rfl (fun K hK => ?_)
  go_simp
  refine (HS1.out _ _ _ rap).mono ?_
  rintro e_ w6 ⟨rfl, hbr⟩
  have hS' := kp (bel_tr hSd.2 hSd.2.size hbr)
  try dsimp only
  refine hK _ _ hS' ?_
  clear hK K hSd
  have hSd := hS'
  clear hS'
  refine wpAnyH_take (i := 5) (v := ?_) rfl (by kernel_rfl) (by kernel_rfl) (by kernel_rfl) (fun _ _ _ h => h) (Or.inl ⟨by kernel_rfl, ?_⟩) (by assumption) ?_
  rotate_left 1
  · (intro w hSw; obtain ⟨hk1, hk2⟩ := hSw; go_simp <;> with_reducible rfl)
  simp only [Act.put, List.getElem_toArray, List.getElem_cons_zero, List.getElem_cons_succ, List.setIfInBounds_toArray, List.set_cons_zero, List.set_cons_succ]
  refine wpAnyH_take (i := 6) (v := ?_) rfl (by kernel_rfl) (by kernel_rfl) (by kernel_rfl) (fun _ _ _ h => h) (Or.inl ⟨by kernel_rfl, ?_⟩) (by assumption) ?_
  rotate_left 1
  · (intro w hSw; obtain ⟨hk1, hk2⟩ := hSw; go_simp <;> with_reducible rfl)
  simp only [Act.put, List.getElem_toArray, List.getElem_cons_zero, List.getElem_cons_succ, List.setIfInBounds_toArray, List.set_cons_zero, List.set_cons_succ]
  refine wpAnyH_take (i := 7) (v := ?_) rfl (by kernel_rfl) (by kernel_rfl) (by kernel_rfl) (fun _ _ _ h => h) (Or.inl ⟨by kernel_rfl, ?_⟩) (by assumption) ?_
  rotate_left 1
  · (intro w hSw; obtain ⟨hk1, hk2⟩ := hSw; go_simp <;> with_reducible rfl)
  simp only [Act.put, List.getElem_toArray, List.getElem_cons_zero, List.getElem_cons_succ, List.setIfInBounds_toArray, List.set_cons_zero, List.set_cons_succ]
  refine wpAnyH_take (i := 8) (v := ?_) rfl (by kernel_rfl) (by kernel_rfl) (by kernel_rfl) (fun _ _ _ h => h) (Or.inl ⟨by kernel_rfl, ?_⟩) (by assumption) ?_
  rotate_left 1
  · (intro w hSw; obtain ⟨hk1, hk2⟩ := hSw; go_simp <;> with_reducible rfl)
  simp only [Act.put, List.getElem_toArray, List.getElem_cons_zero, List.getElem_cons_succ, List.setIfInBounds_toArray, List.set_cons_zero, List.set_cons_succ]
  refine wpAnyH_take (i := 9) (v := ?_) rfl (by kernel_rfl) (by kernel_rfl) (by kernel_rfl) (fun _ _ _ h => h) (Or.inl ⟨by kernel_rfl, ?_⟩) (by assumption) ?_
  rotate_left 1
  · (intro w hSw; obtain ⟨hk1, hk2⟩ := hSw; go_simp <;> with_reducible rfl)
  simp only [Act.put, List.getElem_toArray, List.getElem_cons_zero, List.getElem_cons_succ, List.setIfInBounds_toArray, List.set_cons_zero, List.set_cons_succ]
  refine wpAnyH_done (by kernel_rfl) ?_ _
  have hb5_6 : Below w5.heap.size w5 w6 := hSd.2
  have kS6 := kS5.bel hb5_6
  have kL6 := kL5.bel hb5_6
  have hr6 := hr5.bel hb5_6
  have hB6 : Below q w w6 := hB5.trans (hb5_6.mono z5)
  have z6 : q ≤ w6.heap.size := by have := hb5_6.size; omega
  have ykS_6 := kS6.lt
  have ykL_6 := kL6.lt
  clear s0 s1 t0 t1 t2 t3 hB5 z5 hb5_6 kS5 kL5 hr5 ykS_5 ykL_5
  have s0 := kS6.cell 0; have s1 := kS6.cell 1; simp only [List.getElem?_cons_zero, List.getElem?_cons_succ] at s0 s1
  have t0 := kL6.cell 0; have t1 := kL6.cell 1; have t2 := kL6.cell 2; have t3 := kL6.cell 3; simp only [List.getElem?_cons_zero, List.getElem?_cons_succ] at t0 t1 t2 t3
  clear hSd hbp hbr rap rcp
  go_upto_region 6 with fail
  have hSd : (∀ b o, b < w6.heap.size → w6.drew.cell? ⟨b, o, none⟩ = w6.cell? ⟨b, o, none⟩) ∧ Below w6.heap.size w6 w6.drew := kp (Below.refl _ _).drew
  refine wp_region_held (S := fun w' => (∀ b o, b < w6.heap.size → w'.cell? ⟨b, o, none⟩ = w6.cell? ⟨b, o, none⟩) ∧ Below w6.heap.size w6 w') (by kernel_rfl) ?_
  change wpAnyH _ _ _ _ _ _ _ _ w6.drew
  refine wpAnyH_take (i := 0) (v := ?_) rfl (by kernel_rfl) (by kernel_rfl) (by kernel_rfl) (fun _ _ _ h => h) (Or.inl ⟨by kernel_rfl, ?_⟩) (by assumption) ?_
  rotate_left 1
  · (intro w hSw; obtain ⟨hk1, hk2⟩ := hSw; go_simp <;> with_reducible rfl)
  simp only [Act.put, List.getElem_toArray, List.getElem_cons_zero, List.setIfInBounds_toArray, List.set_cons_zero, List.set_cons_succ]
  refine wpAnyH_take (i := 2) (v := ?_) rfl (by kernel_rfl) (by kernel_rfl) (by kernel_rfl) (fun _ _ _ h => h) (Or.inl ⟨by kernel_rfl, ?_⟩) (by assumption) ?_
  rotate_left 1
  · (intro w hSw; obtain ⟨hk1, hk2⟩ := hSw; go_simp <;> with_reducible rfl)
  simp only [Act.put, List.getElem_toArray, List.getElem_cons_zero, List.getElem_cons_succ, List.setIfInBounds_toArray, List.set_cons_zero, List.set_cons_succ]
  refine wpAnyH_take (i := 3) (v := ?_) rfl (by kernel_rfl) (by kernel_rfl) (by kernel_rfl) (fun _ _ _ h => h) (Or.inl ⟨by kernel_rfl, ?_⟩) (by assumption) ?_
  rotate_left 1
  · (intro w hSw; obtain ⟨hk1, hk2⟩ := hSw; go_simp <;> with_reducible rfl)
  simp only [Act.put, List.getElem_toArray, List.getElem_cons_zero, List.getElem_cons_succ, List.setIfInBounds_toArray, List.set_cons_zero, List.set_cons_succ]
  refine nextH (i := 1) (by kernel_rfl) rfl (fun K hK => ?_)
  go_simp
  refine (HCP.out _ (hr6.bel hSd.2)).mono ?_
  rintro e_ wp ⟨⟨Ap, cp, rfl, rap, rcp⟩, hbp⟩
  have hS' := kp (bel_tr hSd.2 hSd.2.size hbp)
  try dsimp only
  refine hK _ _ hS' ?_
  clear hK K hSd
  have hSd := hS'
  clear hS'
  refine nextH (i := 4) (by kernel_rfl) rfl (fun K hK => ?_)
  go_simp
  refine (HS2.out _ _ _ rap).mono ?_
  rintro e_ w7 ⟨rfl, hbr⟩
  have hS' := kp (bel_tr hSd.2 hSd.2.size hbr)
  try dsimp only
  refine hK _ _ hS' ?_
  clear hK K hSd
  have hSd := hS'
  clear hS'
  refine wpAnyH_take (i := 5) (v := ?_) rfl (by kernel_rfl) (by kernel_rfl) (by kernel_rfl) (fun _ _ _ h => h) (Or.inl ⟨by kernel_rfl, ?_⟩) (by assumption) ?_
  rotate_left 1
  · (intro w hSw; obtain ⟨hk1, hk2⟩ := hSw; go_simp <;> with_reducible rfl)
  simp only [Act.put, List.getElem_toArray, List.getElem_cons_zero, List.getElem_cons_succ, List.setIfInBounds_toArray, List.set_cons_zero, List.set_cons_succ]
  refine wpAnyH_take (i := 6) (v := ?_) rfl (by kernel_rfl) (by kernel_rfl) (by kernel_rfl) (fun _ _ _ h => h) (Or.inl ⟨by kernel_rfl, ?_⟩) (by assumption) ?_
  rotate_left 1
  · (intro w hSw; obtain ⟨hk1, hk2⟩ := hSw; go_simp <;> with_reducible rfl)
  simp only [Act.put, List.getElem_toArray, List.getElem_cons_zero, List.getElem_cons_succ, List.setIfInBounds_toArray, List.set_cons_zero, List.set_cons_succ]
  refine wpAnyH_take (i := 7) (v := ?_) rfl (by kernel_rfl) (by kernel_rfl) (by kernel_rfl) (fun _ _ _ h => h) (Or.inl ⟨by kernel_rfl, ?_⟩) (by assumption) ?_
  rotate_left 1
  · (intro w hSw; obtain ⟨hk1, hk2⟩ := hSw; go_simp <;> with_reducible rfl)
  simp only [Act.put, List.getElem_toArray, List.getElem_cons_zero, List.getElem_cons_succ, List.setIfInBounds_toArray, List.set_cons_zero, List.set_cons_succ]
  refine wpAnyH_take (i := 8) (v := ?_) rfl (by kernel_rfl) (by kernel_rfl) (by kernel_rfl) (fun _ _ _ h => h) (Or.inl ⟨by kernel_rfl, ?_⟩) (by assumption) ?_
  rotate_left 1
  · (intro w hSw; obtain ⟨hk1, hk2⟩ := hSw; go_simp <;> with_reducible rfl)
  simp only [Act.put, List.getElem_toArray, List.getElem_cons_zero, List.getElem_cons_succ, List.setIfInBounds_toArray, List.set_cons_zero, List.set_cons_succ]
  refine wpAnyH_take (i := 9) (v := ?_) rfl (by kernel_rfl) (by kernel_rfl) (by kernel_rfl) (fun _ _ _ h => h) (Or.inl ⟨by kernel_rfl, ?_⟩) (by assumption) ?_
  rotate_left 1
  · (intro w hSw; obtain ⟨hk1, hk2⟩ := hSw; go_simp <;> with_reducible rfl)
  simp only [Act.put, List.getElem_toArray, List.getElem_cons_zero, List.getElem_cons_succ, List.setIfInBounds_toArray, List.set_cons_zero, List.set_cons_succ]
  refine wpAnyH_done (by kernel_rfl) ?_ _
  have hb6_7 : Below w6.heap.size w6 w7 := hSd.2
  have kS7 := kS6.bel hb6_7
  have kL7 := kL6.bel hb6_7
  have hr7 := hr6.bel hb6_7
  have hB7 : Below q w w7 := hB6.trans (hb6_7.mono z6)
  have z7 : q ≤ w7.heap.size := by have := hb6_7.size; omega
  have ykS_7 := kS7.lt
  have ykL_7 := kL7.lt
  clear s0 s1 t0 t1 t2 t3 hB6 z6 hb6_7 kS6 kL6 hr6 ykS_6 ykL_6
  have s0 := kS7.cell 0; have s1 := kS7.cell 1; simp only [List.getElem?_cons_zero, List.getElem?_cons_succ] at s0 s1
  have t0 := kL7.cell 0; have t1 := kL7.cell 1; have t2 := kL7.cell 2; have t3 := kL7.cell 3; simp only [List.getElem?_cons_zero, List.getElem?_cons_succ] at t0 t1 t2 t3
  clear hSd hbp hbr rap rcp
  go_upto_region 8 with (first
    | (go_at_call 18; refine (HCP.out _ hr7).mono ?_; rintro e_ wp ⟨⟨Ap, cp, rfl, rap, rcp⟩, hbp⟩)
    | (go_at_call 21; refine (HS0.out _ _ _ rap).mono ?_; rintro e_ w8 ⟨rfl, hbr⟩))
  have hb7_8 : Below w7.heap.size w7 w8 := bel_tr hbp hbp.size hbr
  have kS8 := kS7.bel hb7_8
  have kL8 := kL7.bel hb7_8
  have hr8 := hr7.bel hb7_8
  have hB8 : Below q w w8 := hB7.trans (hb7_8.mono z7)
  have z8 : q ≤ w8.heap.size := by have := hb7_8.size; omega
  have ykS_8 := kS8.lt
  have ykL_8 := kL8.lt
  clear s0 s1 t0 t1 t2 t3 hB7 z7 hb7_8 kS7 kL7 hr7 ykS_7 ykL_7
  have s0 := kS8.cell 0; have s1 := kS8.cell 1; simp only [List.getElem?_cons_zero, List.getElem?_cons_succ] at s0 s1
  have t0 := kL8.cell 0; have t1 := kL8.cell 1; have t2 := kL8.cell 2; have t3 := kL8.cell 3; simp only [List.getElem?_cons_zero, List.getElem?_cons_succ] at t0 t1 t2 t3
  clear hbp hbr rap rcp
  go_upto_region 9 with (first
    | (go_at_call 18; refine (HCP.out _ hr8).mono ?_; rintro e_ wp ⟨⟨Ap, cp, rfl, rap, rcp⟩, hbp⟩)
    | (go_at_call 19; refine (HCR.out _ _ _ rap).mono ?_; rintro e_ w9 ⟨rfl, hbr⟩))
  have hb8_9 : Below w8.heap.size w8 w9 := bel_tr hbp hbp.size hbr
  have kS9 := kS8.bel hb8_9
  have kL9 := kL8.bel hb8_9
  have hr9 := hr8.bel hb8_9
  have hB9 : Below q w w9 := hB8.trans (hb8_9.mono z8)
  have z9 : q ≤ w9.heap.size := by have := hb8_9.size; omega
  have ykS_9 := kS9.lt
  have ykL_9 := kL9.lt
  clear s0 s1 t0 t1 t2 t3 hB8 z8 hb8_9 kS8 kL8 hr8 ykS_8 ykL_8
  have s0 := kS9.cell 0; have s1 := kS9.cell 1; simp only [List.getElem?_cons_zero, List.getElem?_cons_succ] at s0 s1
  have t0 := kL9.cell 0; have t1 := kL9.cell 1; have t2 := kL9.cell 2; have t3 := kL9.cell 3; simp only [List.getElem?_cons_zero, List.getElem?_cons_succ] at t0 t1 t2 t3
  clear hbp hbr rap rcp
  go_upto_region 12 with (go_at_call 48; refine (within_c _ _ _ _).mono ?_; rintro e_ w_ ⟨rfl, rfl⟩; first | rw [HW1.out] | rw [HW2.out])
  obtain ⟨ab, hab⟩ : ∃ ab, w9.heap.size = ab := ⟨_, rfl⟩
  obtain ⟨w10, hw10⟩ : ∃ w10, w9.alloc (.cells #[.int .i64 f, .int .i64 m, .int .i64 (m + 1)] 3) = w10 := ⟨_, rfl⟩
  obtain ⟨L, hL⟩ : ∃ L : List Int, L = [f, m, m + 1] := ⟨_, rfl⟩
  have hb10 : Below w9.heap.size w9 w10 := by rw [← hw10]; exact alloc_bel _ _
  have kA10 : Blk w10 ab 3 (ints L) := by rw [← hw10, ← hab, hL]; exact Blk.new w9 _ (ints [f, m, m + 1])
  have hL3 : L.length = 3 := by rw [hL]; rfl
  rw [hw10]
  try simp only [hab]
  clear hw10 hL hab
  have hb9_10 : Below w9.heap.size w9 w10 := hb10
  have kS10 := kS9.bel hb9_10
  have kL10 := kL9.bel hb9_10
  have hr10 := hr9.bel hb9_10
  have hB10 : Below q w w10 := hB9.trans (hb9_10.mono z9)
  have z10 : q ≤ w10.heap.size := by have := hb9_10.size; omega
  have ykS_10 := kS10.lt
  have ykL_10 := kL10.lt
  clear s0 s1 t0 t1 t2 t3 hB9 z9 hb9_10 kS9 kL9 hr9 ykS_9 ykL_9
  have s0 := kS10.cell 0; have s1 := kS10.cell 1; simp only [List.getElem?_cons_zero, List.getElem?_cons_succ] at s0 s1
  have t0 := kL10.cell 0; have t1 := kL10.cell 1; have t2 := kL10.cell 2; have t3 := kL10.cell 3; simp only [List.getElem?_cons_zero, List.getElem?_cons_succ] at t0 t1 t2 t3
  have HL3 := hide hL3
  clear hL3 hb10 HS1 HS2 HS0 HCR HW1 HW2
  go_wp2
  go_loopw [16] (fun i wr => ∃ k : Nat, k ≤ 3 ∧ i = .int .i64 k ∧ Below q w wr ∧ Blk wr q 24 [.int .i64 H, .slice A l.length c] ∧ Blk wr q1 80 [.int .i64 n, .int .i64 d, .int .i64 n1, .int .i64 d1] ∧ Blk wr ab 3 (ints L)) (fun i _ => 3 - (intOf i).toNat)
  case atStart => exact ⟨0, Nat.zero_le _, rfl, hB10, kS10, kL10, kA10⟩
  case round =>
    clear s0 s1 t0 t1 t2 t3 kS10 kL10 kA10 hB10 hr10 ykS_10 ykL_10 z10
    obtain ⟨k, hk, rfl, hB11, kS11, kL11, kA11⟩ := hrel
    obtain ⟨w11, rfl⟩ : ∃ w11, w11 = wr := ⟨_, rfl⟩
    have hr11 : Rd w11 A (gs l) := hr.below hB11 (by omega)
    have z11 : q ≤ w11.heap.size := by have := kS11.lt; omega
    by_cases hlt : k < 3
    · have x0 := kA11.cell k
      rw [ints_at (by rw [HL3.out]; exact hlt)] at x0
      have yA := kA11.lt
      have ik : (k : Int) < 3 := by omega
      have HFE := hide (fun W => frequencyErr_c (L[k]'(by rw [HL3.out]; exact hlt)) W)
      generalize (L[k]'(by rw [HL3.out]; exact hlt)) = x at x0 HFE
      by_cases hx : freqE x = 0
      · have hx1 := freqE_zero hx
        have HA9 := HAP.out x hx1.1 hx1.2
        rw [hx] at HFE
        clear HAP hx hx1
        by_cases hp : x ≤ m
        ·
          rw [if_pos hp] at HA9
          obtain ⟨a1, a2, z1, z2, HA1, HG1⟩ := HA9
          have ykS_11 := kS11.lt
          have ykL_11 := kL11.lt
          have ykA_11 := kA11.lt
          have s0 := kS11.cell 0; have s1 := kS11.cell 1; simp only [List.getElem?_cons_zero, List.getElem?_cons_succ] at s0 s1
          have t0 := kL11.cell 0; have t1 := kL11.cell 1; have t2 := kL11.cell 2; have t3 := kL11.cell 3; simp only [List.getElem?_cons_zero, List.getElem?_cons_succ] at t0 t1 t2 t3
          clear ykA_11
          have ykA_11 := yA
          go_upto_region 16 with (go_at_call 24; refine (HFE.out _).mono ?_; rintro e_ w_ ⟨rfl, rfl⟩)
          go_cut [17, 18] from 133 to 144 (fun x y wx => ∃ b : Nat, x = .pointer (some ⟨b, 0, none⟩) ∧ y = .int .i64 0 ∧ Blk wx b 48 [.bool true, .int .i64 a1, .int .i64 a2] ∧ Below w11.heap.size w11 wx ∧ w11.heap.size ≤ b)
          case first =>
            have hSd : (∀ b o, b < w11.heap.size → w11.drew.cell? ⟨b, o, none⟩ = w11.cell? ⟨b, o, none⟩) ∧ Below w11.heap.size w11 w11.drew := kp (Below.refl _ _).drew
            refine wp_region_held (S := fun w' => (∀ b o, b < w11.heap.size → w'.cell? ⟨b, o, none⟩ = w11.cell? ⟨b, o, none⟩) ∧ Below w11.heap.size w11 w') (by kernel_rfl) ?_
            change wpAnyH _ _ _ _ _ _ _ _ w11.drew
            refine wpAnyH_take (i := 0) (v := ?_) rfl (by kernel_rfl) (by kernel_rfl) (by kernel_rfl) (fun _ _ _ h => h) (Or.inl ⟨by kernel_rfl, ?_⟩) (by assumption) ?_
            rotate_left 1
            · (intro w hSw; obtain ⟨hk1, hk2⟩ := hSw; go_simp <;> with_reducible rfl)
            simp only [Act.put, List.getElem_toArray, List.getElem_cons_zero, List.setIfInBounds_toArray, List.set_cons_zero, List.set_cons_succ]
            refine wpAnyH_take (i := 2) (v := ?_) rfl (by kernel_rfl) (by kernel_rfl) (by kernel_rfl) (fun _ _ _ h => h) (Or.inl ⟨by kernel_rfl, ?_⟩) (by assumption) ?_
            rotate_left 1
            · (intro w hSw; obtain ⟨hk1, hk2⟩ := hSw; go_simp <;> with_reducible rfl)
            simp only [Act.put, List.getElem_toArray, List.getElem_cons_zero, List.getElem_cons_succ, List.setIfInBounds_toArray, List.set_cons_zero, List.set_cons_succ]
            refine wpAnyH_take (i := 3) (v := ?_) rfl (by kernel_rfl) (by kernel_rfl) (by kernel_rfl) (fun _ _ _ h => h) (Or.inl ⟨by kernel_rfl, ?_⟩) (by assumption) ?_
            rotate_left 1
            · (intro w hSw; obtain ⟨hk1, hk2⟩ := hSw; go_simp <;> with_reducible rfl)
            simp only [Act.put, List.getElem_toArray, List.getElem_cons_zero, List.getElem_cons_succ, List.setIfInBounds_toArray, List.set_cons_zero, List.set_cons_succ]
            refine wpAnyH_take (i := 4) (v := ?_) rfl (by kernel_rfl) (by kernel_rfl) (by kernel_rfl) (fun _ _ _ h => h) (Or.inl ⟨by kernel_rfl, ?_⟩) (by assumption) ?_
            rotate_left 1
            · (intro w hSw; obtain ⟨hk1, hk2⟩ := hSw; go_simp <;> with_reducible rfl)
            simp only [Act.put, List.getElem_toArray, List.getElem_cons_zero, List.getElem_cons_succ, List.setIfInBounds_toArray, List.set_cons_zero, List.set_cons_succ]
            refine wpAnyH_take (i := 5) (v := ?_) rfl (by kernel_rfl) (by kernel_rfl) (by kernel_rfl) (fun _ _ _ h => h) (Or.inl ⟨by kernel_rfl, ?_⟩) (by assumption) ?_
            rotate_left 1
            · (intro w hSw; obtain ⟨hk1, hk2⟩ := hSw; go_simp <;> with_reducible rfl)
            simp only [Act.put, List.getElem_toArray, List.getElem_cons_zero, List.getElem_cons_succ, List.setIfInBounds_toArray, List.set_cons_zero, List.set_cons_succ]
            refine wpAnyH_take (i := 6) (v := ?_) rfl (by kernel_rfl) (by kernel_rfl) (by kernel_rfl) (fun _ _ _ h => h) (Or.inl ⟨by kernel_rfl, ?_⟩) (by assumption) ?_
            rotate_left 1
            · (intro w hSw; obtain ⟨hk1, hk2⟩ := hSw; go_simp <;> with_reducible rfl)
            simp only [Act.put, List.getElem_toArray, List.getElem_cons_zero, List.getElem_cons_succ, List.setIfInBounds_toArray, List.set_cons_zero, List.set_cons_succ]
            refine wpAnyH_take (i := 7) (v := ?_) rfl (by kernel_rfl) (by kernel_rfl) (by kernel_rfl) (fun _ _ _ h => h) (Or.inl ⟨by kernel_rfl, ?_⟩) (by assumption) ?_
            rotate_left 1
            · (intro w hSw; obtain ⟨hk1, hk2⟩ := hSw; go_simp <;> with_reducible rfl)
            simp only [Act.put, List.getElem_toArray, List.getElem_cons_zero, List.getElem_cons_succ, List.setIfInBounds_toArray, List.set_cons_zero, List.set_cons_succ]
            refine nextH2 (i := 1) (j := 12) (by kernel_rfl) rfl rfl (fun K hK => ?_) (fun K hK => ?_)
            ·
              go_simp
              refine (HCP.out _ (hr11.bel hSd.2)).mono ?_
              rintro e_ wa ⟨⟨A1, c1, rfl, ra1, rc1⟩, hbx⟩
              have hS' := kp (bel_tr hSd.2 hSd.2.size hbx)
              try dsimp only
              refine hK _ _ hS' ?_
              clear hK K hSd
              have hSd := hS'
              clear hS'
              refine nextH2 (i := 8) (j := 12) (by kernel_rfl) rfl rfl (fun K hK => ?_) (fun K hK => ?_)
              ·
                go_simp
                refine (HA1.out _ _ _ ra1 rc1).mono ?_
                rintro e_ wx ⟨rfl, hby⟩
                have hS' := kp (bel_tr hSd.2 hSd.2.size hby)
                try dsimp only
                refine hK _ _ hS' ?_
                clear hK K hSd
                have hSd := hS'
                clear hS'
                refine wpAnyH_take (i := 9) (v := ?_) rfl (by kernel_rfl) (by kernel_rfl) (by kernel_rfl) (fun _ _ _ h => h) (Or.inl ⟨by kernel_rfl, ?_⟩) (by assumption) ?_
                rotate_left 1
                · (intro w hSw; obtain ⟨hk1, hk2⟩ := hSw; go_simp <;> with_reducible rfl)
                simp only [Act.put, List.getElem_toArray, List.getElem_cons_zero, List.getElem_cons_succ, List.setIfInBounds_toArray, List.set_cons_zero, List.set_cons_succ]
                refine wpAnyH_take (i := 10) (v := ?_) rfl (by kernel_rfl) (by kernel_rfl) (by kernel_rfl) (fun _ _ _ h => h) (Or.inl ⟨by kernel_rfl, ?_⟩) (by assumption) ?_
                rotate_left 1
                · (intro w hSw; obtain ⟨hk1, hk2⟩ := hSw; go_simp <;> with_reducible rfl)
                simp only [Act.put, List.getElem_toArray, List.getElem_cons_zero, List.getElem_cons_succ, List.setIfInBounds_toArray, List.set_cons_zero, List.set_cons_succ]
                refine wpAnyH_take (i := 11) (v := ?_) rfl (by kernel_rfl) (by kernel_rfl) (by kernel_rfl) (fun _ _ _ h => h) (Or.inl ⟨by kernel_rfl, ?_⟩) (by assumption) ?_
                rotate_left 1
                · (intro w hSw; obtain ⟨hk1, hk2⟩ := hSw; go_simp <;> with_reducible rfl)
                simp only [Act.put, List.getElem_toArray, List.getElem_cons_zero, List.getElem_cons_succ, List.setIfInBounds_toArray, List.set_cons_zero, List.set_cons_succ]
                refine nextH (i := 12) (by kernel_rfl) rfl (fun K hK => ?_)
                go_simp
                have hBl := Blk.new wx 48 [.bool false, .int .i64 0, .int .i64 0]
                have hvr : w11.heap.size ≤ (wx).heap.size := hSd.2.size
                have hS' := kp (bel_alloc hSd.2 hSd.2.size (.cells #[.bool false, .int .i64 0, .int .i64 0] 48))
                refine hK _ _ hS' ?_
                clear hK K hSd
                have hSd := hS'
                clear hS'
                obtain ⟨bb, hbb⟩ : ∃ bb, wx.heap.size = bb := ⟨_, rfl⟩
                obtain ⟨Wy, hWy⟩ : ∃ Wy, wx.alloc (.cells #[.bool false, .int .i64 0, .int .i64 0] 48) = Wy := ⟨_, rfl⟩
                rw [hWy] at hSd hBl ⊢
                rw [hbb] at hBl hvr
                try simp only [hbb]
                clear hWy hbb
                obtain ⟨x0, x1, x2⟩ : (Wy).cell? ⟨bb, 0, none⟩ = some (.bool false) ∧ (Wy).cell? ⟨bb, 1, none⟩ = some (.int .i64 0) ∧ (Wy).cell? ⟨bb, 2, none⟩ = some (.int .i64 0) := ⟨hBl.cell 0, hBl.cell 1, hBl.cell 2⟩
                obtain ⟨f0, f1, f2⟩ : (Wy).frozen? ⟨bb, 0, none⟩ = false ∧ (Wy).frozen? ⟨bb, 1, none⟩ = false ∧ (Wy).frozen? ⟨bb, 2, none⟩ = false := ⟨hBl.frozen 0, hBl.frozen 1, hBl.frozen 2⟩
                have zb := hBl.lt
                refine nextH (i := 13) (by kernel_rfl) rfl (fun K hK => ?_)
                go_simp
                obtain ⟨WE, hWE⟩ : ∃ WE, ((((Wy).setCell ⟨bb, 0, none⟩ (.bool true)).setCell ⟨bb, 1, none⟩ (.int .i64 a1)).setCell ⟨bb, 2, none⟩ (.int .i64 a2)) = WE := ⟨_, rfl⟩
                rw [hWE]
                have hE : Blk WE (bb) 48 [.bool true, .int .i64 a1, .int .i64 a2] := by rw [← hWE]; exact (((hBl.set_ 0 _).set_ 1 _).set_ 2 _)
                have hbE : Below w11.heap.size w11 WE := by rw [← hWE]; exact (((hSd.2.setCell hvr _).setCell hvr _).setCell hvr _)
                clear hWE x0 f0 x1 f1 x2 f2
                refine hK _ _ (kp hbE) ?_
                clear hK K
                refine nextH (i := 14) (by kernel_rfl) rfl (fun K hK => ?_)
                go_simp
                refine hK _ _ (kp hbE) ?_
                clear hK K
                refine wpAnyH_done (by kernel_rfl) ?_ _
                go_wp2
                go_meet
                exact ⟨_, rfl, rfl, hE, hbE, hvr⟩
              ·
                go_simp
                have hBl := Blk.new wa 48 [.bool false, .int .i64 0, .int .i64 0]
                have hvr : w11.heap.size ≤ (wa).heap.size := hSd.2.size
                have hS' := kp (bel_alloc hSd.2 hSd.2.size (.cells #[.bool false, .int .i64 0, .int .i64 0] 48))
                refine hK _ _ hS' ?_
                clear hK K hSd
                have hSd := hS'
                clear hS'
                obtain ⟨bb, hbb⟩ : ∃ bb, wa.heap.size = bb := ⟨_, rfl⟩
                obtain ⟨Wy, hWy⟩ : ∃ Wy, wa.alloc (.cells #[.bool false, .int .i64 0, .int .i64 0] 48) = Wy := ⟨_, rfl⟩
                replace ra1 := ra1.bel (alloc_bel wa (.cells #[.bool false, .int .i64 0, .int .i64 0] 48))
                rw [hWy] at hSd hBl ra1 ⊢
                rw [hbb] at hBl hvr
                try simp only [hbb]
                clear hWy hbb
                refine nextH (i := 8) (by kernel_rfl) rfl (fun K hK => ?_)
                go_simp
                refine (HA1.out _ _ _ ra1 rc1).mono ?_
                rintro e_ wx ⟨rfl, hby⟩
                have hS' := kp (bel_tr hSd.2 hSd.2.size hby)
                try dsimp only
                refine hK _ _ hS' ?_
                clear hK K hSd
                have hSd := hS'
                clear hS'
                replace hBl := hBl.bel hby
                refine wpAnyH_take (i := 9) (v := ?_) rfl (by kernel_rfl) (by kernel_rfl) (by kernel_rfl) (fun _ _ _ h => h) (Or.inl ⟨by kernel_rfl, ?_⟩) (by assumption) ?_
                rotate_left 1
                · (intro w hSw; obtain ⟨hk1, hk2⟩ := hSw; go_simp <;> with_reducible rfl)
                simp only [Act.put, List.getElem_toArray, List.getElem_cons_zero, List.getElem_cons_succ, List.setIfInBounds_toArray, List.set_cons_zero, List.set_cons_succ]
                refine wpAnyH_take (i := 10) (v := ?_) rfl (by kernel_rfl) (by kernel_rfl) (by kernel_rfl) (fun _ _ _ h => h) (Or.inl ⟨by kernel_rfl, ?_⟩) (by assumption) ?_
                rotate_left 1
                · (intro w hSw; obtain ⟨hk1, hk2⟩ := hSw; go_simp <;> with_reducible rfl)
                simp only [Act.put, List.getElem_toArray, List.getElem_cons_zero, List.getElem_cons_succ, List.setIfInBounds_toArray, List.set_cons_zero, List.set_cons_succ]
                refine wpAnyH_take (i := 11) (v := ?_) rfl (by kernel_rfl) (by kernel_rfl) (by kernel_rfl) (fun _ _ _ h => h) (Or.inl ⟨by kernel_rfl, ?_⟩) (by assumption) ?_
                rotate_left 1
                · (intro w hSw; obtain ⟨hk1, hk2⟩ := hSw; go_simp <;> with_reducible rfl)
                simp only [Act.put, List.getElem_toArray, List.getElem_cons_zero, List.getElem_cons_succ, List.setIfInBounds_toArray, List.set_cons_zero, List.set_cons_succ]
                obtain ⟨x0, x1, x2⟩ : (wx).cell? ⟨bb, 0, none⟩ = some (.bool false) ∧ (wx).cell? ⟨bb, 1, none⟩ = some (.int .i64 0) ∧ (wx).cell? ⟨bb, 2, none⟩ = some (.int .i64 0) := ⟨hBl.cell 0, hBl.cell 1, hBl.cell 2⟩
                obtain ⟨f0, f1, f2⟩ : (wx).frozen? ⟨bb, 0, none⟩ = false ∧ (wx).frozen? ⟨bb, 1, none⟩ = false ∧ (wx).frozen? ⟨bb, 2, none⟩ = false := ⟨hBl.frozen 0, hBl.frozen 1, hBl.frozen 2⟩
                have zb := hBl.lt
                refine nextH (i := 13) (by kernel_rfl) rfl (fun K hK => ?_)
                go_simp
                obtain ⟨WE, hWE⟩ : ∃ WE, ((((wx).setCell ⟨bb, 0, none⟩ (.bool true)).setCell ⟨bb, 1, none⟩ (.int .i64 a1)).setCell ⟨bb, 2, none⟩ (.int .i64 a2)) = WE := ⟨_, rfl⟩
                rw [hWE]
                have hE : Blk WE (bb) 48 [.bool true, .int .i64 a1, .int .i64 a2] := by rw [← hWE]; exact (((hBl.set_ 0 _).set_ 1 _).set_ 2 _)
                have hbE : Below w11.heap.size w11 WE := by rw [← hWE]; exact (((hSd.2.setCell hvr _).setCell hvr _).setCell hvr _)
                clear hWE x0 f0 x1 f1 x2 f2
                refine hK _ _ (kp hbE) ?_
                clear hK K
                refine nextH (i := 14) (by kernel_rfl) rfl (fun K hK => ?_)
                go_simp
                refine hK _ _ (kp hbE) ?_
                clear hK K
                refine wpAnyH_done (by kernel_rfl) ?_ _
                go_wp2
                go_meet
                exact ⟨_, rfl, rfl, hE, hbE, hvr⟩
            ·
              go_simp
              have hB6 : Below w11.heap.size w11 (w11.alloc (.cells #[.bool false, .int .i64 0, .int .i64 0] 48)).drew := (alloc_bel w11 _).drew
              have hBl0 : Blk (w11.alloc (.cells #[.bool false, .int .i64 0, .int .i64 0] 48)).drew w11.heap.size 48 [.bool false, .int .i64 0, .int .i64 0] := Blk.new w11 _ [.bool false, .int .i64 0, .int .i64 0]
              refine hK _ _ (kp hB6) ?_
              clear hK K hSd
              have hSd := kp hB6
              have hvr : w11.heap.size ≤ w11.heap.size := Nat.le_refl _
              refine nextH (i := 1) (by kernel_rfl) rfl (fun K hK => ?_)
              go_simp
              refine (HCP.out _ (hr11.bel hSd.2)).mono ?_
              rintro e_ wa ⟨⟨A1, c1, rfl, ra1, rc1⟩, hbx⟩
              have hS' := kp (bel_tr hSd.2 hSd.2.size hbx)
              try dsimp only
              refine hK _ _ hS' ?_
              clear hK K hSd
              have hSd := hS'
              clear hS'
              have hBl1 := hBl0.bel hbx
              clear hBl0 hB6
              refine nextH (i := 8) (by kernel_rfl) rfl (fun K hK => ?_)
              go_simp
              refine (HA1.out _ _ _ ra1 rc1).mono ?_
              rintro e_ wx ⟨rfl, hby⟩
              have hS' := kp (bel_tr hSd.2 hSd.2.size hby)
              try dsimp only
              refine hK _ _ hS' ?_
              clear hK K hSd
              have hSd := hS'
              clear hS'
              have hBl := hBl1.bel hby
              clear hBl1
              refine wpAnyH_take (i := 9) (v := ?_) rfl (by kernel_rfl) (by kernel_rfl) (by kernel_rfl) (fun _ _ _ h => h) (Or.inl ⟨by kernel_rfl, ?_⟩) (by assumption) ?_
              rotate_left 1
              · (intro w hSw; obtain ⟨hk1, hk2⟩ := hSw; go_simp <;> with_reducible rfl)
              simp only [Act.put, List.getElem_toArray, List.getElem_cons_zero, List.getElem_cons_succ, List.setIfInBounds_toArray, List.set_cons_zero, List.set_cons_succ]
              refine wpAnyH_take (i := 10) (v := ?_) rfl (by kernel_rfl) (by kernel_rfl) (by kernel_rfl) (fun _ _ _ h => h) (Or.inl ⟨by kernel_rfl, ?_⟩) (by assumption) ?_
              rotate_left 1
              · (intro w hSw; obtain ⟨hk1, hk2⟩ := hSw; go_simp <;> with_reducible rfl)
              simp only [Act.put, List.getElem_toArray, List.getElem_cons_zero, List.getElem_cons_succ, List.setIfInBounds_toArray, List.set_cons_zero, List.set_cons_succ]
              refine wpAnyH_take (i := 11) (v := ?_) rfl (by kernel_rfl) (by kernel_rfl) (by kernel_rfl) (fun _ _ _ h => h) (Or.inl ⟨by kernel_rfl, ?_⟩) (by assumption) ?_
              rotate_left 1
              · (intro w hSw; obtain ⟨hk1, hk2⟩ := hSw; go_simp <;> with_reducible rfl)
              simp only [Act.put, List.getElem_toArray, List.getElem_cons_zero, List.getElem_cons_succ, List.setIfInBounds_toArray, List.set_cons_zero, List.set_cons_succ]
              obtain ⟨x0, x1, x2⟩ : (wx).cell? ⟨w11.heap.size, 0, none⟩ = some (.bool false) ∧ (wx).cell? ⟨w11.heap.size, 1, none⟩ = some (.int .i64 0) ∧ (wx).cell? ⟨w11.heap.size, 2, none⟩ = some (.int .i64 0) := ⟨hBl.cell 0, hBl.cell 1, hBl.cell 2⟩
              obtain ⟨f0, f1, f2⟩ : (wx).frozen? ⟨w11.heap.size, 0, none⟩ = false ∧ (wx).frozen? ⟨w11.heap.size, 1, none⟩ = false ∧ (wx).frozen? ⟨w11.heap.size, 2, none⟩ = false := ⟨hBl.frozen 0, hBl.frozen 1, hBl.frozen 2⟩
              have zb := hBl.lt
              refine nextH (i := 13) (by kernel_rfl) rfl (fun K hK => ?_)
              go_simp
              obtain ⟨WE, hWE⟩ : ∃ WE, ((((wx).setCell ⟨w11.heap.size, 0, none⟩ (.bool true)).setCell ⟨w11.heap.size, 1, none⟩ (.int .i64 a1)).setCell ⟨w11.heap.size, 2, none⟩ (.int .i64 a2)) = WE := ⟨_, rfl⟩
              rw [hWE]
              have hE : Blk WE (w11.heap.size) 48 [.bool true, .int .i64 a1, .int .i64 a2] := by rw [← hWE]; exact (((hBl.set_ 0 _).set_ 1 _).set_ 2 _)
              have hbE : Below w11.heap.size w11 WE := by rw [← hWE]; exact (((hSd.2.setCell hvr _).setCell hvr _).setCell hvr _)
              clear hWE x0 f0 x1 f1 x2 f2
              refine hK _ _ (kp hbE) ?_
              clear hK K
              refine nextH (i := 14) (by kernel_rfl) rfl (fun K hK => ?_)
              go_simp
              refine hK _ _ (kp hbE) ?_
              clear hK K
              refine wpAnyH_done (by kernel_rfl) ?_ _
              go_wp2
              go_meet
              exact ⟨_, rfl, rfl, hE, hbE, hvr⟩
          obtain ⟨b3, rfl, rfl, kb3, hbb3, hgb3⟩ := hcut
          obtain ⟨w12, rfl⟩ : ∃ w12, w12 = wc := ⟨_, rfl⟩
          have x12 : w12.cell? ⟨ab, k, none⟩ = some (.int .i64 x) := (bcell hbb3).1 _ _ yA |>.trans x0
          have hb11_12 : Below w11.heap.size w11 w12 := hbb3
          have kS12 := kS11.bel hb11_12
          have kL12 := kL11.bel hb11_12
          have kA12 := kA11.bel hb11_12
          have hr12 := hr11.bel hb11_12
          have hB12 : Below q w w12 := hB11.trans (hb11_12.mono z11)
          have z12 : q ≤ w12.heap.size := by have := hb11_12.size; omega
          have ykS_12 := kS12.lt
          have ykL_12 := kL12.lt
          have ykA_12 := kA12.lt
          clear s0 s1 t0 t1 t2 t3 hB11 z11 hb11_12 kS11 kL11 kA11 hr11 ykS_11 ykL_11 ykA_11
          have s0 := kS12.cell 0; have s1 := kS12.cell 1; simp only [List.getElem?_cons_zero, List.getElem?_cons_succ] at s0 s1
          have t0 := kL12.cell 0; have t1 := kL12.cell 1; have t2 := kL12.cell 2; have t3 := kL12.cell 3; simp only [List.getElem?_cons_zero, List.getElem?_cons_succ] at t0 t1 t2 t3
          clear x0 hbb3 yA
          go_upto_region 17 with fail
          go_cut [19, 20] from 145 to 156 (fun x y wx => ∃ b : Nat, x = .pointer (some ⟨b, 0, none⟩) ∧ y = .int .i64 0 ∧ Blk wx b 55 [.int .i64 z1, .int .i64 z2] ∧ Below w12.heap.size w12 wx ∧ w12.heap.size ≤ b)
          case first =>
            have hSd : (∀ b o, b < w12.heap.size → w12.drew.cell? ⟨b, o, none⟩ = w12.cell? ⟨b, o, none⟩) ∧ Below w12.heap.size w12 w12.drew := kp (Below.refl _ _).drew
            refine wp_region_held (S := fun w' => (∀ b o, b < w12.heap.size → w'.cell? ⟨b, o, none⟩ = w12.cell? ⟨b, o, none⟩) ∧ Below w12.heap.size w12 w') (by kernel_rfl) ?_
            change wpAnyH _ _ _ _ _ _ _ _ w12.drew
            refine wpAnyH_take (i := 0) (v := ?_) rfl (by kernel_rfl) (by kernel_rfl) (by kernel_rfl) (fun _ _ _ h => h) (Or.inl ⟨by kernel_rfl, ?_⟩) (by assumption) ?_
            rotate_left 1
            · (intro w hSw; obtain ⟨hk1, hk2⟩ := hSw; go_simp <;> with_reducible rfl)
            simp only [Act.put, List.getElem_toArray, List.getElem_cons_zero, List.setIfInBounds_toArray, List.set_cons_zero, List.set_cons_succ]
            refine wpAnyH_take (i := 2) (v := ?_) rfl (by kernel_rfl) (by kernel_rfl) (by kernel_rfl) (fun _ _ _ h => h) (Or.inl ⟨by kernel_rfl, ?_⟩) (by assumption) ?_
            rotate_left 1
            · (intro w hSw; obtain ⟨hk1, hk2⟩ := hSw; go_simp <;> with_reducible rfl)
            simp only [Act.put, List.getElem_toArray, List.getElem_cons_zero, List.getElem_cons_succ, List.setIfInBounds_toArray, List.set_cons_zero, List.set_cons_succ]
            refine wpAnyH_take (i := 3) (v := ?_) rfl (by kernel_rfl) (by kernel_rfl) (by kernel_rfl) (fun _ _ _ h => h) (Or.inl ⟨by kernel_rfl, ?_⟩) (by assumption) ?_
            rotate_left 1
            · (intro w hSw; obtain ⟨hk1, hk2⟩ := hSw; go_simp <;> with_reducible rfl)
            simp only [Act.put, List.getElem_toArray, List.getElem_cons_zero, List.getElem_cons_succ, List.setIfInBounds_toArray, List.set_cons_zero, List.set_cons_succ]
            refine wpAnyH_take (i := 4) (v := ?_) rfl (by kernel_rfl) (by kernel_rfl) (by kernel_rfl) (fun _ _ _ h => h) (Or.inl ⟨by kernel_rfl, ?_⟩) (by assumption) ?_
            rotate_left 1
            · (intro w hSw; obtain ⟨hk1, hk2⟩ := hSw; go_simp <;> with_reducible rfl)
            simp only [Act.put, List.getElem_toArray, List.getElem_cons_zero, List.getElem_cons_succ, List.setIfInBounds_toArray, List.set_cons_zero, List.set_cons_succ]
            refine wpAnyH_take (i := 5) (v := ?_) rfl (by kernel_rfl) (by kernel_rfl) (by kernel_rfl) (fun _ _ _ h => h) (Or.inl ⟨by kernel_rfl, ?_⟩) (by assumption) ?_
            rotate_left 1
            · (intro w hSw; obtain ⟨hk1, hk2⟩ := hSw; go_simp <;> with_reducible rfl)
            simp only [Act.put, List.getElem_toArray, List.getElem_cons_zero, List.getElem_cons_succ, List.setIfInBounds_toArray, List.set_cons_zero, List.set_cons_succ]
            refine wpAnyH_take (i := 6) (v := ?_) rfl (by kernel_rfl) (by kernel_rfl) (by kernel_rfl) (fun _ _ _ h => h) (Or.inl ⟨by kernel_rfl, ?_⟩) (by assumption) ?_
            rotate_left 1
            · (intro w hSw; obtain ⟨hk1, hk2⟩ := hSw; go_simp <;> with_reducible rfl)
            simp only [Act.put, List.getElem_toArray, List.getElem_cons_zero, List.getElem_cons_succ, List.setIfInBounds_toArray, List.set_cons_zero, List.set_cons_succ]
            refine wpAnyH_take (i := 7) (v := ?_) rfl (by kernel_rfl) (by kernel_rfl) (by kernel_rfl) (fun _ _ _ h => h) (Or.inl ⟨by kernel_rfl, ?_⟩) (by assumption) ?_
            rotate_left 1
            · (intro w hSw; obtain ⟨hk1, hk2⟩ := hSw; go_simp <;> with_reducible rfl)
            simp only [Act.put, List.getElem_toArray, List.getElem_cons_zero, List.getElem_cons_succ, List.setIfInBounds_toArray, List.set_cons_zero, List.set_cons_succ]
            refine nextH2 (i := 1) (j := 12) (by kernel_rfl) rfl rfl (fun K hK => ?_) (fun K hK => ?_)
            ·
              go_simp
              refine (HCP.out _ (hr12.bel hSd.2)).mono ?_
              rintro e_ wa ⟨⟨A1, c1, rfl, ra1, rc1⟩, hbx⟩
              have hS' := kp (bel_tr hSd.2 hSd.2.size hbx)
              try dsimp only
              refine hK _ _ hS' ?_
              clear hK K hSd
              have hSd := hS'
              clear hS'
              refine nextH2 (i := 8) (j := 12) (by kernel_rfl) rfl rfl (fun K hK => ?_) (fun K hK => ?_)
              ·
                go_simp
                refine (HG1.out _ _ _ ra1 rc1).mono ?_
                rintro e_ wx ⟨rfl, hby⟩
                have hS' := kp (bel_tr hSd.2 hSd.2.size hby)
                try dsimp only
                refine hK _ _ hS' ?_
                clear hK K hSd
                have hSd := hS'
                clear hS'
                refine wpAnyH_take (i := 9) (v := ?_) rfl (by kernel_rfl) (by kernel_rfl) (by kernel_rfl) (fun _ _ _ h => h) (Or.inl ⟨by kernel_rfl, ?_⟩) (by assumption) ?_
                rotate_left 1
                · (intro w hSw; obtain ⟨hk1, hk2⟩ := hSw; go_simp <;> with_reducible rfl)
                simp only [Act.put, List.getElem_toArray, List.getElem_cons_zero, List.getElem_cons_succ, List.setIfInBounds_toArray, List.set_cons_zero, List.set_cons_succ]
                refine wpAnyH_take (i := 10) (v := ?_) rfl (by kernel_rfl) (by kernel_rfl) (by kernel_rfl) (fun _ _ _ h => h) (Or.inl ⟨by kernel_rfl, ?_⟩) (by assumption) ?_
                rotate_left 1
                · (intro w hSw; obtain ⟨hk1, hk2⟩ := hSw; go_simp <;> with_reducible rfl)
                simp only [Act.put, List.getElem_toArray, List.getElem_cons_zero, List.getElem_cons_succ, List.setIfInBounds_toArray, List.set_cons_zero, List.set_cons_succ]
                refine wpAnyH_take (i := 11) (v := ?_) rfl (by kernel_rfl) (by kernel_rfl) (by kernel_rfl) (fun _ _ _ h => h) (Or.inl ⟨by kernel_rfl, ?_⟩) (by assumption) ?_
                rotate_left 1
                · (intro w hSw; obtain ⟨hk1, hk2⟩ := hSw; go_simp <;> with_reducible rfl)
                simp only [Act.put, List.getElem_toArray, List.getElem_cons_zero, List.getElem_cons_succ, List.setIfInBounds_toArray, List.set_cons_zero, List.set_cons_succ]
                refine nextH (i := 12) (by kernel_rfl) rfl (fun K hK => ?_)
                go_simp
                have hBl := Blk.new wx 55 [.int .i64 0, .int .i64 0]
                have hvr : w12.heap.size ≤ (wx).heap.size := hSd.2.size
                have hS' := kp (bel_alloc hSd.2 hSd.2.size (.cells #[.int .i64 0, .int .i64 0] 55))
                refine hK _ _ hS' ?_
                clear hK K hSd
                have hSd := hS'
                clear hS'
                obtain ⟨bb, hbb⟩ : ∃ bb, wx.heap.size = bb := ⟨_, rfl⟩
                obtain ⟨Wy, hWy⟩ : ∃ Wy, wx.alloc (.cells #[.int .i64 0, .int .i64 0] 55) = Wy := ⟨_, rfl⟩
                rw [hWy] at hSd hBl ⊢
                rw [hbb] at hBl hvr
                try simp only [hbb]
                clear hWy hbb
                obtain ⟨x0, x1⟩ : (Wy).cell? ⟨bb, 0, none⟩ = some (.int .i64 0) ∧ (Wy).cell? ⟨bb, 1, none⟩ = some (.int .i64 0) := ⟨hBl.cell 0, hBl.cell 1⟩
                obtain ⟨f0, f1⟩ : (Wy).frozen? ⟨bb, 0, none⟩ = false ∧ (Wy).frozen? ⟨bb, 1, none⟩ = false := ⟨hBl.frozen 0, hBl.frozen 1⟩
                have zb := hBl.lt
                refine nextH (i := 13) (by kernel_rfl) rfl (fun K hK => ?_)
                go_simp
                obtain ⟨WE, hWE⟩ : ∃ WE, (((Wy).setCell ⟨bb, 0, none⟩ (.int .i64 z1)).setCell ⟨bb, 1, none⟩ (.int .i64 z2)) = WE := ⟨_, rfl⟩
                rw [hWE]
                have hE : Blk WE (bb) 55 [.int .i64 z1, .int .i64 z2] := by rw [← hWE]; exact ((hBl.set_ 0 _).set_ 1 _)
                have hbE : Below w12.heap.size w12 WE := by rw [← hWE]; exact ((hSd.2.setCell hvr _).setCell hvr _)
                clear hWE x0 f0 x1 f1
                refine hK _ _ (kp hbE) ?_
                clear hK K
                refine nextH (i := 14) (by kernel_rfl) rfl (fun K hK => ?_)
                go_simp
                refine hK _ _ (kp hbE) ?_
                clear hK K
                refine wpAnyH_done (by kernel_rfl) ?_ _
                go_wp2
                go_meet
                exact ⟨_, rfl, rfl, hE, hbE, hvr⟩
              ·
                go_simp
                have hBl := Blk.new wa 55 [.int .i64 0, .int .i64 0]
                have hvr : w12.heap.size ≤ (wa).heap.size := hSd.2.size
                have hS' := kp (bel_alloc hSd.2 hSd.2.size (.cells #[.int .i64 0, .int .i64 0] 55))
                refine hK _ _ hS' ?_
                clear hK K hSd
                have hSd := hS'
                clear hS'
                obtain ⟨bb, hbb⟩ : ∃ bb, wa.heap.size = bb := ⟨_, rfl⟩
                obtain ⟨Wy, hWy⟩ : ∃ Wy, wa.alloc (.cells #[.int .i64 0, .int .i64 0] 55) = Wy := ⟨_, rfl⟩
                replace ra1 := ra1.bel (alloc_bel wa (.cells #[.int .i64 0, .int .i64 0] 55))
                rw [hWy] at hSd hBl ra1 ⊢
                rw [hbb] at hBl hvr
                try simp only [hbb]
                clear hWy hbb
                refine nextH (i := 8) (by kernel_rfl) rfl (fun K hK => ?_)
                go_simp
                refine (HG1.out _ _ _ ra1 rc1).mono ?_
                rintro e_ wx ⟨rfl, hby⟩
                have hS' := kp (bel_tr hSd.2 hSd.2.size hby)
                try dsimp only
                refine hK _ _ hS' ?_
                clear hK K hSd
                have hSd := hS'
                clear hS'
                replace hBl := hBl.bel hby
                refine wpAnyH_take (i := 9) (v := ?_) rfl (by kernel_rfl) (by kernel_rfl) (by kernel_rfl) (fun _ _ _ h => h) (Or.inl ⟨by kernel_rfl, ?_⟩) (by assumption) ?_
                rotate_left 1
                · (intro w hSw; obtain ⟨hk1, hk2⟩ := hSw; go_simp <;> with_reducible rfl)
                simp only [Act.put, List.getElem_toArray, List.getElem_cons_zero, List.getElem_cons_succ, List.setIfInBounds_toArray, List.set_cons_zero, List.set_cons_succ]
                refine wpAnyH_take (i := 10) (v := ?_) rfl (by kernel_rfl) (by kernel_rfl) (by kernel_rfl) (fun _ _ _ h => h) (Or.inl ⟨by kernel_rfl, ?_⟩) (by assumption) ?_
                rotate_left 1
                · (intro w hSw; obtain ⟨hk1, hk2⟩ := hSw; go_simp <;> with_reducible rfl)
                simp only [Act.put, List.getElem_toArray, List.getElem_cons_zero, List.getElem_cons_succ, List.setIfInBounds_toArray, List.set_cons_zero, List.set_cons_succ]
                refine wpAnyH_take (i := 11) (v := ?_) rfl (by kernel_rfl) (by kernel_rfl) (by kernel_rfl) (fun _ _ _ h => h) (Or.inl ⟨by kernel_rfl, ?_⟩) (by assumption) ?_
                rotate_left 1
                · (intro w hSw; obtain ⟨hk1, hk2⟩ := hSw; go_simp <;> with_reducible rfl)
                simp only [Act.put, List.getElem_toArray, List.getElem_cons_zero, List.getElem_cons_succ, List.setIfInBounds_toArray, List.set_cons_zero, List.set_cons_succ]
                obtain ⟨x0, x1⟩ : (wx).cell? ⟨bb, 0, none⟩ = some (.int .i64 0) ∧ (wx).cell? ⟨bb, 1, none⟩ = some (.int .i64 0) := ⟨hBl.cell 0, hBl.cell 1⟩
                obtain ⟨f0, f1⟩ : (wx).frozen? ⟨bb, 0, none⟩ = false ∧ (wx).frozen? ⟨bb, 1, none⟩ = false := ⟨hBl.frozen 0, hBl.frozen 1⟩
                have zb := hBl.lt
                refine nextH (i := 13) (by kernel_rfl) rfl (fun K hK => ?_)
                go_simp
                obtain ⟨WE, hWE⟩ : ∃ WE, (((wx).setCell ⟨bb, 0, none⟩ (.int .i64 z1)).setCell ⟨bb, 1, none⟩ (.int .i64 z2)) = WE := ⟨_, rfl⟩
                rw [hWE]
                have hE : Blk WE (bb) 55 [.int .i64 z1, .int .i64 z2] := by rw [← hWE]; exact ((hBl.set_ 0 _).set_ 1 _)
                have hbE : Below w12.heap.size w12 WE := by rw [← hWE]; exact ((hSd.2.setCell hvr _).setCell hvr _)
                clear hWE x0 f0 x1 f1
                refine hK _ _ (kp hbE) ?_
                clear hK K
                refine nextH (i := 14) (by kernel_rfl) rfl (fun K hK => ?_)
                go_simp
                refine hK _ _ (kp hbE) ?_
                clear hK K
                refine wpAnyH_done (by kernel_rfl) ?_ _
                go_wp2
                go_meet
                exact ⟨_, rfl, rfl, hE, hbE, hvr⟩
            ·
              go_simp
              have hB6 : Below w12.heap.size w12 (w12.alloc (.cells #[.int .i64 0, .int .i64 0] 55)).drew := (alloc_bel w12 _).drew
              have hBl0 : Blk (w12.alloc (.cells #[.int .i64 0, .int .i64 0] 55)).drew w12.heap.size 55 [.int .i64 0, .int .i64 0] := Blk.new w12 _ [.int .i64 0, .int .i64 0]
              refine hK _ _ (kp hB6) ?_
              clear hK K hSd
              have hSd := kp hB6
              have hvr : w12.heap.size ≤ w12.heap.size := Nat.le_refl _
              refine nextH (i := 1) (by kernel_rfl) rfl (fun K hK => ?_)
              go_simp
              refine (HCP.out _ (hr12.bel hSd.2)).mono ?_
              rintro e_ wa ⟨⟨A1, c1, rfl, ra1, rc1⟩, hbx⟩
              have hS' := kp (bel_tr hSd.2 hSd.2.size hbx)
              try dsimp only
              refine hK _ _ hS' ?_
              clear hK K hSd
              have hSd := hS'
              clear hS'
              have hBl1 := hBl0.bel hbx
              clear hBl0 hB6
              refine nextH (i := 8) (by kernel_rfl) rfl (fun K hK => ?_)
              go_simp
              refine (HG1.out _ _ _ ra1 rc1).mono ?_
              rintro e_ wx ⟨rfl, hby⟩
              have hS' := kp (bel_tr hSd.2 hSd.2.size hby)
              try dsimp only
              refine hK _ _ hS' ?_
              clear hK K hSd
              have hSd := hS'
              clear hS'
              have hBl := hBl1.bel hby
              clear hBl1
              refine wpAnyH_take (i := 9) (v := ?_) rfl (by kernel_rfl) (by kernel_rfl) (by kernel_rfl) (fun _ _ _ h => h) (Or.inl ⟨by kernel_rfl, ?_⟩) (by assumption) ?_
              rotate_left 1
              · (intro w hSw; obtain ⟨hk1, hk2⟩ := hSw; go_simp <;> with_reducible rfl)
              simp only [Act.put, List.getElem_toArray, List.getElem_cons_zero, List.getElem_cons_succ, List.setIfInBounds_toArray, List.set_cons_zero, List.set_cons_succ]
              refine wpAnyH_take (i := 10) (v := ?_) rfl (by kernel_rfl) (by kernel_rfl) (by kernel_rfl) (fun _ _ _ h => h) (Or.inl ⟨by kernel_rfl, ?_⟩) (by assumption) ?_
              rotate_left 1
              · (intro w hSw; obtain ⟨hk1, hk2⟩ := hSw; go_simp <;> with_reducible rfl)
              simp only [Act.put, List.getElem_toArray, List.getElem_cons_zero, List.getElem_cons_succ, List.setIfInBounds_toArray, List.set_cons_zero, List.set_cons_succ]
              refine wpAnyH_take (i := 11) (v := ?_) rfl (by kernel_rfl) (by kernel_rfl) (by kernel_rfl) (fun _ _ _ h => h) (Or.inl ⟨by kernel_rfl, ?_⟩) (by assumption) ?_
              rotate_left 1
              · (intro w hSw; obtain ⟨hk1, hk2⟩ := hSw; go_simp <;> with_reducible rfl)
              simp only [Act.put, List.getElem_toArray, List.getElem_cons_zero, List.getElem_cons_succ, List.setIfInBounds_toArray, List.set_cons_zero, List.set_cons_succ]
              obtain ⟨x0, x1⟩ : (wx).cell? ⟨w12.heap.size, 0, none⟩ = some (.int .i64 0) ∧ (wx).cell? ⟨w12.heap.size, 1, none⟩ = some (.int .i64 0) := ⟨hBl.cell 0, hBl.cell 1⟩
              obtain ⟨f0, f1⟩ : (wx).frozen? ⟨w12.heap.size, 0, none⟩ = false ∧ (wx).frozen? ⟨w12.heap.size, 1, none⟩ = false := ⟨hBl.frozen 0, hBl.frozen 1⟩
              have zb := hBl.lt
              refine nextH (i := 13) (by kernel_rfl) rfl (fun K hK => ?_)
              go_simp
              obtain ⟨WE, hWE⟩ : ∃ WE, (((wx).setCell ⟨w12.heap.size, 0, none⟩ (.int .i64 z1)).setCell ⟨w12.heap.size, 1, none⟩ (.int .i64 z2)) = WE := ⟨_, rfl⟩
              rw [hWE]
              have hE : Blk WE (w12.heap.size) 55 [.int .i64 z1, .int .i64 z2] := by rw [← hWE]; exact ((hBl.set_ 0 _).set_ 1 _)
              have hbE : Below w12.heap.size w12 WE := by rw [← hWE]; exact ((hSd.2.setCell hvr _).setCell hvr _)
              clear hWE x0 f0 x1 f1
              refine hK _ _ (kp hbE) ?_
              clear hK K
              refine nextH (i := 14) (by kernel_rfl) rfl (fun K hK => ?_)
              go_simp
              refine hK _ _ (kp hbE) ?_
              clear hK K
              refine wpAnyH_done (by kernel_rfl) ?_ _
              go_wp2
              go_meet
              exact ⟨_, rfl, rfl, hE, hbE, hvr⟩
          obtain ⟨b4, rfl, rfl, kb4, hbb4, hgb4⟩ := hcut
          obtain ⟨w13, rfl⟩ : ∃ w13, w13 = wc := ⟨_, rfl⟩
          have x13 : w13.cell? ⟨ab, k, none⟩ = some (.int .i64 x) := (bcell hbb4).1 _ _ ykA_12 |>.trans x12
          have kP13 := kb3.bel hbb4
          have yP13 := kP13.lt
          have hb12_13 : Below w12.heap.size w12 w13 := hbb4
          have kS13 := kS12.bel hb12_13
          have kL13 := kL12.bel hb12_13
          have kA13 := kA12.bel hb12_13
          have hr13 := hr12.bel hb12_13
          have hB13 : Below q w w13 := hB12.trans (hb12_13.mono z12)
          have z13 : q ≤ w13.heap.size := by have := hb12_13.size; omega
          have ykS_13 := kS13.lt
          have ykL_13 := kL13.lt
          have ykA_13 := kA13.lt
          clear s0 s1 t0 t1 t2 t3 hB12 z12 hb12_13 kS12 kL12 kA12 hr12 ykS_12 ykL_12 ykA_12
          have s0 := kS13.cell 0; have s1 := kS13.cell 1; simp only [List.getElem?_cons_zero, List.getElem?_cons_succ] at s0 s1
          have t0 := kL13.cell 0; have t1 := kL13.cell 1; have t2 := kL13.cell 2; have t3 := kL13.cell 3; simp only [List.getElem?_cons_zero, List.getElem?_cons_succ] at t0 t1 t2 t3
          obtain ⟨p0, p1, p2⟩ : w13.cell? ⟨b3, 0, none⟩ = some (.bool true) ∧ w13.cell? ⟨b3, 1, none⟩ = some (.int .i64 a1) ∧ w13.cell? ⟨b3, 2, none⟩ = some (.int .i64 a2) := ⟨kP13.cell 0, kP13.cell 1, kP13.cell 2⟩
          go_upto_region 18 with fail
          go_quiet (fail)
          go_wp2
          go_roundw
          case rel => exact ⟨k + 1, by omega, by go_num, below_drewN hB13 _, kS13.drewN _, kL13.drewN _, kA13.drewN _⟩
          case measure => simp [intOf]; omega
        ·
          rw [if_neg hp] at HA9
          obtain ⟨HA1, HG1⟩ := HA9
          have ykS_11 := kS11.lt
          have ykL_11 := kL11.lt
          have ykA_11 := kA11.lt
          have s0 := kS11.cell 0; have s1 := kS11.cell 1; simp only [List.getElem?_cons_zero, List.getElem?_cons_succ] at s0 s1
          have t0 := kL11.cell 0; have t1 := kL11.cell 1; have t2 := kL11.cell 2; have t3 := kL11.cell 3; simp only [List.getElem?_cons_zero, List.getElem?_cons_succ] at t0 t1 t2 t3
          clear ykA_11
          have ykA_11 := yA
          go_upto_region 16 with (go_at_call 24; refine (HFE.out _).mono ?_; rintro e_ w_ ⟨rfl, rfl⟩)
          go_cut [17, 18] from 133 to 144 (fun x y wx => ∃ b : Nat, x = .pointer (some ⟨b, 0, none⟩) ∧ y = .int .i64 0 ∧ Blk wx b 48 [.bool false, .int .i64 0, .int .i64 0] ∧ Below w11.heap.size w11 wx ∧ w11.heap.size ≤ b)
          case first =>
            have hSd : (∀ b o, b < w11.heap.size → w11.drew.cell? ⟨b, o, none⟩ = w11.cell? ⟨b, o, none⟩) ∧ Below w11.heap.size w11 w11.drew := kp (Below.refl _ _).drew
            refine wp_region_held (S := fun w' => (∀ b o, b < w11.heap.size → w'.cell? ⟨b, o, none⟩ = w11.cell? ⟨b, o, none⟩) ∧ Below w11.heap.size w11 w') (by kernel_rfl) ?_
            change wpAnyH _ _ _ _ _ _ _ _ w11.drew
            refine wpAnyH_take (i := 0) (v := ?_) rfl (by kernel_rfl) (by kernel_rfl) (by kernel_rfl) (fun _ _ _ h => h) (Or.inl ⟨by kernel_rfl, ?_⟩) (by assumption) ?_
            rotate_left 1
            · (intro w hSw; obtain ⟨hk1, hk2⟩ := hSw; go_simp <;> with_reducible rfl)
            simp only [Act.put, List.getElem_toArray, List.getElem_cons_zero, List.setIfInBounds_toArray, List.set_cons_zero, List.set_cons_succ]
            refine wpAnyH_take (i := 2) (v := ?_) rfl (by kernel_rfl) (by kernel_rfl) (by kernel_rfl) (fun _ _ _ h => h) (Or.inl ⟨by kernel_rfl, ?_⟩) (by assumption) ?_
            rotate_left 1
            · (intro w hSw; obtain ⟨hk1, hk2⟩ := hSw; go_simp <;> with_reducible rfl)
            simp only [Act.put, List.getElem_toArray, List.getElem_cons_zero, List.getElem_cons_succ, List.setIfInBounds_toArray, List.set_cons_zero, List.set_cons_succ]
            refine wpAnyH_take (i := 3) (v := ?_) rfl (by kernel_rfl) (by kernel_rfl) (by kernel_rfl) (fun _ _ _ h => h) (Or.inl ⟨by kernel_rfl, ?_⟩) (by assumption) ?_
            rotate_left 1
            · (intro w hSw; obtain ⟨hk1, hk2⟩ := hSw; go_simp <;> with_reducible rfl)
            simp only [Act.put, List.getElem_toArray, List.getElem_cons_zero, List.getElem_cons_succ, List.setIfInBounds_toArray, List.set_cons_zero, List.set_cons_succ]
            refine wpAnyH_take (i := 4) (v := ?_) rfl (by kernel_rfl) (by kernel_rfl) (by kernel_rfl) (fun _ _ _ h => h) (Or.inl ⟨by kernel_rfl, ?_⟩) (by assumption) ?_
            rotate_left 1
            · (intro w hSw; obtain ⟨hk1, hk2⟩ := hSw; go_simp <;> with_reducible rfl)
            simp only [Act.put, List.getElem_toArray, List.getElem_cons_zero, List.getElem_cons_succ, List.setIfInBounds_toArray, List.set_cons_zero, List.set_cons_succ]
            refine wpAnyH_take (i := 5) (v := ?_) rfl (by kernel_rfl) (by kernel_rfl) (by kernel_rfl) (fun _ _ _ h => h) (Or.inl ⟨by kernel_rfl, ?_⟩) (by assumption) ?_
            rotate_left 1
            · (intro w hSw; obtain ⟨hk1, hk2⟩ := hSw; go_simp <;> with_reducible rfl)
            simp only [Act.put, List.getElem_toArray, List.getElem_cons_zero, List.getElem_cons_succ, List.setIfInBounds_toArray, List.set_cons_zero, List.set_cons_succ]
            refine wpAnyH_take (i := 6) (v := ?_) rfl (by kernel_rfl) (by kernel_rfl) (by kernel_rfl) (fun _ _ _ h => h) (Or.inl ⟨by kernel_rfl, ?_⟩) (by assumption) ?_
            rotate_left 1
            · (intro w hSw; obtain ⟨hk1, hk2⟩ := hSw; go_simp <;> with_reducible rfl)
            simp only [Act.put, List.getElem_toArray, List.getElem_cons_zero, List.getElem_cons_succ, List.setIfInBounds_toArray, List.set_cons_zero, List.set_cons_succ]
            refine wpAnyH_take (i := 7) (v := ?_) rfl (by kernel_rfl) (by kernel_rfl) (by kernel_rfl) (fun _ _ _ h => h) (Or.inl ⟨by kernel_rfl, ?_⟩) (by assumption) ?_
            rotate_left 1
            · (intro w hSw; obtain ⟨hk1, hk2⟩ := hSw; go_simp <;> with_reducible rfl)
            simp only [Act.put, List.getElem_toArray, List.getElem_cons_zero, List.getElem_cons_succ, List.setIfInBounds_toArray, List.set_cons_zero, List.set_cons_succ]
            refine nextH2 (i := 1) (j := 12) (by kernel_rfl) rfl rfl (fun K hK => ?_) (fun K hK => ?_)
            ·
              go_simp
              refine (HCP.out _ (hr11.bel hSd.2)).mono ?_
              rintro e_ wa ⟨⟨A1, c1, rfl, ra1, rc1⟩, hbx⟩
              have hS' := kp (bel_tr hSd.2 hSd.2.size hbx)
              try dsimp only
              refine hK _ _ hS' ?_
              clear hK K hSd
              have hSd := hS'
              clear hS'
              refine nextH2 (i := 8) (j := 12) (by kernel_rfl) rfl rfl (fun K hK => ?_) (fun K hK => ?_)
              ·
                go_simp
                refine (HA1.out _ _ _ ra1 rc1).mono ?_
                rintro e_ wx ⟨rfl, hby⟩
                have hS' := kp (bel_tr hSd.2 hSd.2.size hby)
                try dsimp only
                refine hK _ _ hS' ?_
                clear hK K hSd
                have hSd := hS'
                clear hS'
                refine wpAnyH_take (i := 9) (v := ?_) rfl (by kernel_rfl) (by kernel_rfl) (by kernel_rfl) (fun _ _ _ h => h) (Or.inl ⟨by kernel_rfl, ?_⟩) (by assumption) ?_
                rotate_left 1
                · (intro w hSw; obtain ⟨hk1, hk2⟩ := hSw; go_simp <;> with_reducible rfl)
                simp only [Act.put, List.getElem_toArray, List.getElem_cons_zero, List.getElem_cons_succ, List.setIfInBounds_toArray, List.set_cons_zero, List.set_cons_succ]
                refine wpAnyH_take (i := 10) (v := ?_) rfl (by kernel_rfl) (by kernel_rfl) (by kernel_rfl) (fun _ _ _ h => h) (Or.inl ⟨by kernel_rfl, ?_⟩) (by assumption) ?_
                rotate_left 1
                · (intro w hSw; obtain ⟨hk1, hk2⟩ := hSw; go_simp <;> with_reducible rfl)
                simp only [Act.put, List.getElem_toArray, List.getElem_cons_zero, List.getElem_cons_succ, List.setIfInBounds_toArray, List.set_cons_zero, List.set_cons_succ]
                refine wpAnyH_take (i := 11) (v := ?_) rfl (by kernel_rfl) (by kernel_rfl) (by kernel_rfl) (fun _ _ _ h => h) (Or.inl ⟨by kernel_rfl, ?_⟩) (by assumption) ?_
                rotate_left 1
                · (intro w hSw; obtain ⟨hk1, hk2⟩ := hSw; go_simp <;> with_reducible rfl)
                simp only [Act.put, List.getElem_toArray, List.getElem_cons_zero, List.getElem_cons_succ, List.setIfInBounds_toArray, List.set_cons_zero, List.set_cons_succ]
                refine nextH (i := 12) (by kernel_rfl) rfl (fun K hK => ?_)
                go_simp
                have hBl := Blk.new wx 48 [.bool false, .int .i64 0, .int .i64 0]
                have hvr : w11.heap.size ≤ (wx).heap.size := hSd.2.size
                have hS' := kp (bel_alloc hSd.2 hSd.2.size (.cells #[.bool false, .int .i64 0, .int .i64 0] 48))
                refine hK _ _ hS' ?_
                clear hK K hSd
                have hSd := hS'
                clear hS'
                obtain ⟨bb, hbb⟩ : ∃ bb, wx.heap.size = bb := ⟨_, rfl⟩
                obtain ⟨Wy, hWy⟩ : ∃ Wy, wx.alloc (.cells #[.bool false, .int .i64 0, .int .i64 0] 48) = Wy := ⟨_, rfl⟩
                rw [hWy] at hSd hBl ⊢
                rw [hbb] at hBl hvr
                try simp only [hbb]
                clear hWy hbb
                obtain ⟨x0, x1, x2⟩ : (Wy).cell? ⟨bb, 0, none⟩ = some (.bool false) ∧ (Wy).cell? ⟨bb, 1, none⟩ = some (.int .i64 0) ∧ (Wy).cell? ⟨bb, 2, none⟩ = some (.int .i64 0) := ⟨hBl.cell 0, hBl.cell 1, hBl.cell 2⟩
                obtain ⟨f0, f1, f2⟩ : (Wy).frozen? ⟨bb, 0, none⟩ = false ∧ (Wy).frozen? ⟨bb, 1, none⟩ = false ∧ (Wy).frozen? ⟨bb, 2, none⟩ = false := ⟨hBl.frozen 0, hBl.frozen 1, hBl.frozen 2⟩
                have zb := hBl.lt
                refine nextH (i := 13) (by kernel_rfl) rfl (fun K hK => ?_)
                go_simp
                obtain ⟨WE, hWE⟩ : ∃ WE, ((((Wy).setCell ⟨bb, 0, none⟩ (.bool false)).setCell ⟨bb, 1, none⟩ (.int .i64 0)).setCell ⟨bb, 2, none⟩ (.int .i64 0)) = WE := ⟨_, rfl⟩
                rw [hWE]
                have hE : Blk WE (bb) 48 [.bool false, .int .i64 0, .int .i64 0] := by rw [← hWE]; exact (((hBl.set_ 0 _).set_ 1 _).set_ 2 _)
                have hbE : Below w11.heap.size w11 WE := by rw [← hWE]; exact (((hSd.2.setCell hvr _).setCell hvr _).setCell hvr _)
                clear hWE x0 f0 x1 f1 x2 f2
                refine hK _ _ (kp hbE) ?_
                clear hK K
                refine nextH (i := 14) (by kernel_rfl) rfl (fun K hK => ?_)
                go_simp
                refine hK _ _ (kp hbE) ?_
                clear hK K
                refine wpAnyH_done (by kernel_rfl) ?_ _
                go_wp2
                go_meet
                exact ⟨_, rfl, rfl, hE, hbE, hvr⟩
              ·
                go_simp
                have hBl := Blk.new wa 48 [.bool false, .int .i64 0, .int .i64 0]
                have hvr : w11.heap.size ≤ (wa).heap.size := hSd.2.size
                have hS' := kp (bel_alloc hSd.2 hSd.2.size (.cells #[.bool false, .int .i64 0, .int .i64 0] 48))
                refine hK _ _ hS' ?_
                clear hK K hSd
                have hSd := hS'
                clear hS'
                obtain ⟨bb, hbb⟩ : ∃ bb, wa.heap.size = bb := ⟨_, rfl⟩
                obtain ⟨Wy, hWy⟩ : ∃ Wy, wa.alloc (.cells #[.bool false, .int .i64 0, .int .i64 0] 48) = Wy := ⟨_, rfl⟩
                replace ra1 := ra1.bel (alloc_bel wa (.cells #[.bool false, .int .i64 0, .int .i64 0] 48))
                rw [hWy] at hSd hBl ra1 ⊢
                rw [hbb] at hBl hvr
                try simp only [hbb]
                clear hWy hbb
                refine nextH (i := 8) (by kernel_rfl) rfl (fun K hK => ?_)
                go_simp
                refine (HA1.out _ _ _ ra1 rc1).mono ?_
                rintro e_ wx ⟨rfl, hby⟩
                have hS' := kp (bel_tr hSd.2 hSd.2.size hby)
                try dsimp only
                refine hK _ _ hS' ?_
                clear hK K hSd
                have hSd := hS'
                clear hS'
                replace hBl := hBl.bel hby
                refine wpAnyH_take (i := 9) (v := ?_) rfl (by kernel_rfl) (by kernel_rfl) (by kernel_rfl) (fun _ _ _ h => h) (Or.inl ⟨by kernel_rfl, ?_⟩) (by assumption) ?_
                rotate_left 1
                · (intro w hSw; obtain ⟨hk1, hk2⟩ := hSw; go_simp <;> with_reducible rfl)
                simp only [Act.put, List.getElem_toArray, List.getElem_cons_zero, List.getElem_cons_succ, List.setIfInBounds_toArray, List.set_cons_zero, List.set_cons_succ]
                refine wpAnyH_take (i := 10) (v := ?_) rfl (by kernel_rfl) (by kernel_rfl) (by kernel_rfl) (fun _ _ _ h => h) (Or.inl ⟨by kernel_rfl, ?_⟩) (by assumption) ?_
                rotate_left 1
                · (intro w hSw; obtain ⟨hk1, hk2⟩ := hSw; go_simp <;> with_reducible rfl)
                simp only [Act.put, List.getElem_toArray, List.getElem_cons_zero, List.getElem_cons_succ, List.setIfInBounds_toArray, List.set_cons_zero, List.set_cons_succ]
                refine wpAnyH_take (i := 11) (v := ?_) rfl (by kernel_rfl) (by kernel_rfl) (by kernel_rfl) (fun _ _ _ h => h) (Or.inl ⟨by kernel_rfl, ?_⟩) (by assumption) ?_
                rotate_left 1
                · (intro w hSw; obtain ⟨hk1, hk2⟩ := hSw; go_simp <;> with_reducible rfl)
                simp only [Act.put, List.getElem_toArray, List.getElem_cons_zero, List.getElem_cons_succ, List.setIfInBounds_toArray, List.set_cons_zero, List.set_cons_succ]
                obtain ⟨x0, x1, x2⟩ : (wx).cell? ⟨bb, 0, none⟩ = some (.bool false) ∧ (wx).cell? ⟨bb, 1, none⟩ = some (.int .i64 0) ∧ (wx).cell? ⟨bb, 2, none⟩ = some (.int .i64 0) := ⟨hBl.cell 0, hBl.cell 1, hBl.cell 2⟩
                obtain ⟨f0, f1, f2⟩ : (wx).frozen? ⟨bb, 0, none⟩ = false ∧ (wx).frozen? ⟨bb, 1, none⟩ = false ∧ (wx).frozen? ⟨bb, 2, none⟩ = false := ⟨hBl.frozen 0, hBl.frozen 1, hBl.frozen 2⟩
                have zb := hBl.lt
                refine nextH (i := 13) (by kernel_rfl) rfl (fun K hK => ?_)
                go_simp
                obtain ⟨WE, hWE⟩ : ∃ WE, ((((wx).setCell ⟨bb, 0, none⟩ (.bool false)).setCell ⟨bb, 1, none⟩ (.int .i64 0)).setCell ⟨bb, 2, none⟩ (.int .i64 0)) = WE := ⟨_, rfl⟩
                rw [hWE]
                have hE : Blk WE (bb) 48 [.bool false, .int .i64 0, .int .i64 0] := by rw [← hWE]; exact (((hBl.set_ 0 _).set_ 1 _).set_ 2 _)
                have hbE : Below w11.heap.size w11 WE := by rw [← hWE]; exact (((hSd.2.setCell hvr _).setCell hvr _).setCell hvr _)
                clear hWE x0 f0 x1 f1 x2 f2
                refine hK _ _ (kp hbE) ?_
                clear hK K
                refine nextH (i := 14) (by kernel_rfl) rfl (fun K hK => ?_)
                go_simp
                refine hK _ _ (kp hbE) ?_
                clear hK K
                refine wpAnyH_done (by kernel_rfl) ?_ _
                go_wp2
                go_meet
                exact ⟨_, rfl, rfl, hE, hbE, hvr⟩
            ·
              go_simp
              have hB6 : Below w11.heap.size w11 (w11.alloc (.cells #[.bool false, .int .i64 0, .int .i64 0] 48)).drew := (alloc_bel w11 _).drew
              have hBl0 : Blk (w11.alloc (.cells #[.bool false, .int .i64 0, .int .i64 0] 48)).drew w11.heap.size 48 [.bool false, .int .i64 0, .int .i64 0] := Blk.new w11 _ [.bool false, .int .i64 0, .int .i64 0]
              refine hK _ _ (kp hB6) ?_
              clear hK K hSd
              have hSd := kp hB6
              have hvr : w11.heap.size ≤ w11.heap.size := Nat.le_refl _
              refine nextH (i := 1) (by kernel_rfl) rfl (fun K hK => ?_)
              go_simp
              refine (HCP.out _ (hr11.bel hSd.2)).mono ?_
              rintro e_ wa ⟨⟨A1, c1, rfl, ra1, rc1⟩, hbx⟩
              have hS' := kp (bel_tr hSd.2 hSd.2.size hbx)
              try dsimp only
              refine hK _ _ hS' ?_
              clear hK K hSd
              have hSd := hS'
              clear hS'
              have hBl1 := hBl0.bel hbx
              clear hBl0 hB6
              refine nextH (i := 8) (by kernel_rfl) rfl (fun K hK => ?_)
              go_simp
              refine (HA1.out _ _ _ ra1 rc1).mono ?_
              rintro e_ wx ⟨rfl, hby⟩
              have hS' := kp (bel_tr hSd.2 hSd.2.size hby)
              try dsimp only
              refine hK _ _ hS' ?_
              clear hK K hSd
              have hSd := hS'
              clear hS'
              have hBl := hBl1.bel hby
              clear hBl1
              refine wpAnyH_take (i := 9) (v := ?_) rfl (by kernel_rfl) (by kernel_rfl) (by kernel_rfl) (fun _ _ _ h => h) (Or.inl ⟨by kernel_rfl, ?_⟩) (by assumption) ?_
              rotate_left 1
              · (intro w hSw; obtain ⟨hk1, hk2⟩ := hSw; go_simp <;> with_reducible rfl)
              simp only [Act.put, List.getElem_toArray, List.getElem_cons_zero, List.getElem_cons_succ, List.setIfInBounds_toArray, List.set_cons_zero, List.set_cons_succ]
              refine wpAnyH_take (i := 10) (v := ?_) rfl (by kernel_rfl) (by kernel_rfl) (by kernel_rfl) (fun _ _ _ h => h) (Or.inl ⟨by kernel_rfl, ?_⟩) (by assumption) ?_
              rotate_left 1
              · (intro w hSw; obtain ⟨hk1, hk2⟩ := hSw; go_simp <;> with_reducible rfl)
              simp only [Act.put, List.getElem_toArray, List.getElem_cons_zero, List.getElem_cons_succ, List.setIfInBounds_toArray, List.set_cons_zero, List.set_cons_succ]
              refine wpAnyH_take (i := 11) (v := ?_) rfl (by kernel_rfl) (by kernel_rfl) (by kernel_rfl) (fun _ _ _ h => h) (Or.inl ⟨by kernel_rfl, ?_⟩) (by assumption) ?_
              rotate_left 1
              · (intro w hSw; obtain ⟨hk1, hk2⟩ := hSw; go_simp <;> with_reducible rfl)
              simp only [Act.put, List.getElem_toArray, List.getElem_cons_zero, List.getElem_cons_succ, List.setIfInBounds_toArray, List.set_cons_zero, List.set_cons_succ]
              obtain ⟨x0, x1, x2⟩ : (wx).cell? ⟨w11.heap.size, 0, none⟩ = some (.bool false) ∧ (wx).cell? ⟨w11.heap.size, 1, none⟩ = some (.int .i64 0) ∧ (wx).cell? ⟨w11.heap.size, 2, none⟩ = some (.int .i64 0) := ⟨hBl.cell 0, hBl.cell 1, hBl.cell 2⟩
              obtain ⟨f0, f1, f2⟩ : (wx).frozen? ⟨w11.heap.size, 0, none⟩ = false ∧ (wx).frozen? ⟨w11.heap.size, 1, none⟩ = false ∧ (wx).frozen? ⟨w11.heap.size, 2, none⟩ = false := ⟨hBl.frozen 0, hBl.frozen 1, hBl.frozen 2⟩
              have zb := hBl.lt
              refine nextH (i := 13) (by kernel_rfl) rfl (fun K hK => ?_)
              go_simp
              obtain ⟨WE, hWE⟩ : ∃ WE, ((((wx).setCell ⟨w11.heap.size, 0, none⟩ (.bool false)).setCell ⟨w11.heap.size, 1, none⟩ (.int .i64 0)).setCell ⟨w11.heap.size, 2, none⟩ (.int .i64 0)) = WE := ⟨_, rfl⟩
              rw [hWE]
              have hE : Blk WE (w11.heap.size) 48 [.bool false, .int .i64 0, .int .i64 0] := by rw [← hWE]; exact (((hBl.set_ 0 _).set_ 1 _).set_ 2 _)
              have hbE : Below w11.heap.size w11 WE := by rw [← hWE]; exact (((hSd.2.setCell hvr _).setCell hvr _).setCell hvr _)
              clear hWE x0 f0 x1 f1 x2 f2
              refine hK _ _ (kp hbE) ?_
              clear hK K
              refine nextH (i := 14) (by kernel_rfl) rfl (fun K hK => ?_)
              go_simp
              refine hK _ _ (kp hbE) ?_
              clear hK K
              refine wpAnyH_done (by kernel_rfl) ?_ _
              go_wp2
              go_meet
              exact ⟨_, rfl, rfl, hE, hbE, hvr⟩
          obtain ⟨b3, rfl, rfl, kb3, hbb3, hgb3⟩ := hcut
          obtain ⟨w12, rfl⟩ : ∃ w12, w12 = wc := ⟨_, rfl⟩
          have x12 : w12.cell? ⟨ab, k, none⟩ = some (.int .i64 x) := (bcell hbb3).1 _ _ yA |>.trans x0
          have hb11_12 : Below w11.heap.size w11 w12 := hbb3
          have kS12 := kS11.bel hb11_12
          have kL12 := kL11.bel hb11_12
          have kA12 := kA11.bel hb11_12
          have hr12 := hr11.bel hb11_12
          have hB12 : Below q w w12 := hB11.trans (hb11_12.mono z11)
          have z12 : q ≤ w12.heap.size := by have := hb11_12.size; omega
          have ykS_12 := kS12.lt
          have ykL_12 := kL12.lt
          have ykA_12 := kA12.lt
          clear s0 s1 t0 t1 t2 t3 hB11 z11 hb11_12 kS11 kL11 kA11 hr11 ykS_11 ykL_11 ykA_11
          have s0 := kS12.cell 0; have s1 := kS12.cell 1; simp only [List.getElem?_cons_zero, List.getElem?_cons_succ] at s0 s1
          have t0 := kL12.cell 0; have t1 := kL12.cell 1; have t2 := kL12.cell 2; have t3 := kL12.cell 3; simp only [List.getElem?_cons_zero, List.getElem?_cons_succ] at t0 t1 t2 t3
          clear x0 hbb3 yA
          go_upto_region 17 with fail
          go_cut [19, 20] from 145 to 156 (fun x y wx => ∃ b : Nat, x = .pointer (some ⟨b, 0, none⟩) ∧ y = .int .i64 21 ∧ Blk wx b 55 [.int .i64 0, .int .i64 0] ∧ Below w12.heap.size w12 wx ∧ w12.heap.size ≤ b)
          case first =>
            have hSd : (∀ b o, b < w12.heap.size → w12.drew.cell? ⟨b, o, none⟩ = w12.cell? ⟨b, o, none⟩) ∧ Below w12.heap.size w12 w12.drew := kp (Below.refl _ _).drew
            refine wp_region_held (S := fun w' => (∀ b o, b < w12.heap.size → w'.cell? ⟨b, o, none⟩ = w12.cell? ⟨b, o, none⟩) ∧ Below w12.heap.size w12 w') (by kernel_rfl) ?_
            change wpAnyH _ _ _ _ _ _ _ _ w12.drew
            refine wpAnyH_take (i := 0) (v := ?_) rfl (by kernel_rfl) (by kernel_rfl) (by kernel_rfl) (fun _ _ _ h => h) (Or.inl ⟨by kernel_rfl, ?_⟩) (by assumption) ?_
            rotate_left 1
            · (intro w hSw; obtain ⟨hk1, hk2⟩ := hSw; go_simp <;> with_reducible rfl)
            simp only [Act.put, List.getElem_toArray, List.getElem_cons_zero, List.setIfInBounds_toArray, List.set_cons_zero, List.set_cons_succ]
            refine wpAnyH_take (i := 2) (v := ?_) rfl (by kernel_rfl) (by kernel_rfl) (by kernel_rfl) (fun _ _ _ h => h) (Or.inl ⟨by kernel_rfl, ?_⟩) (by assumption) ?_
            rotate_left 1
            · (intro w hSw; obtain ⟨hk1, hk2⟩ := hSw; go_simp <;> with_reducible rfl)
            simp only [Act.put, List.getElem_toArray, List.getElem_cons_zero, List.getElem_cons_succ, List.setIfInBounds_toArray, List.set_cons_zero, List.set_cons_succ]
            refine wpAnyH_take (i := 3) (v := ?_) rfl (by kernel_rfl) (by kernel_rfl) (by kernel_rfl) (fun _ _ _ h => h) (Or.inl ⟨by kernel_rfl, ?_⟩) (by assumption) ?_
            rotate_left 1
            · (intro w hSw; obtain ⟨hk1, hk2⟩ := hSw; go_simp <;> with_reducible rfl)
            simp only [Act.put, List.getElem_toArray, List.getElem_cons_zero, List.getElem_cons_succ, List.setIfInBounds_toArray, List.set_cons_zero, List.set_cons_succ]
            refine wpAnyH_take (i := 4) (v := ?_) rfl (by kernel_rfl) (by kernel_rfl) (by kernel_rfl) (fun _ _ _ h => h) (Or.inl ⟨by kernel_rfl, ?_⟩) (by assumption) ?_
            rotate_left 1
            · (intro w hSw; obtain ⟨hk1, hk2⟩ := hSw; go_simp <;> with_reducible rfl)
            simp only [Act.put, List.getElem_toArray, List.getElem_cons_zero, List.getElem_cons_succ, List.setIfInBounds_toArray, List.set_cons_zero, List.set_cons_succ]
            refine wpAnyH_take (i := 5) (v := ?_) rfl (by kernel_rfl) (by kernel_rfl) (by kernel_rfl) (fun _ _ _ h => h) (Or.inl ⟨by kernel_rfl, ?_⟩) (by assumption) ?_
            rotate_left 1
            · (intro w hSw; obtain ⟨hk1, hk2⟩ := hSw; go_simp <;> with_reducible rfl)
            simp only [Act.put, List.getElem_toArray, List.getElem_cons_zero, List.getElem_cons_succ, List.setIfInBounds_toArray, List.set_cons_zero, List.set_cons_succ]
            refine wpAnyH_take (i := 6) (v := ?_) rfl (by kernel_rfl) (by kernel_rfl) (by kernel_rfl) (fun _ _ _ h => h) (Or.inl ⟨by kernel_rfl, ?_⟩) (by assumption) ?_
            rotate_left 1
            · (intro w hSw; obtain ⟨hk1, hk2⟩ := hSw; go_simp <;> with_reducible rfl)
            simp only [Act.put, List.getElem_toArray, List.getElem_cons_zero, List.getElem_cons_succ, List.setIfInBounds_toArray, List.set_cons_zero, List.set_cons_succ]
            refine wpAnyH_take (i := 7) (v := ?_) rfl (by kernel_rfl) (by kernel_rfl) (by kernel_rfl) (fun _ _ _ h => h) (Or.inl ⟨by kernel_rfl, ?_⟩) (by assumption) ?_
            rotate_left 1
            · (intro w hSw; obtain ⟨hk1, hk2⟩ := hSw; go_simp <;> with_reducible rfl)
            simp only [Act.put, List.getElem_toArray, List.getElem_cons_zero, List.getElem_cons_succ, List.setIfInBounds_toArray, List.set_cons_zero, List.set_cons_succ]
            refine nextH2 (i := 1) (j := 12) (by kernel_rfl) rfl rfl (fun K hK => ?_) (fun K hK => ?_)
            ·
              go_simp
              refine (HCP.out _ (hr12.bel hSd.2)).mono ?_
              rintro e_ wa ⟨⟨A1, c1, rfl, ra1, rc1⟩, hbx⟩
              have hS' := kp (bel_tr hSd.2 hSd.2.size hbx)
              try dsimp only
              refine hK _ _ hS' ?_
              clear hK K hSd
              have hSd := hS'
              clear hS'
              refine nextH2 (i := 8) (j := 12) (by kernel_rfl) rfl rfl (fun K hK => ?_) (fun K hK => ?_)
              ·
                go_simp
                refine (HG1.out _ _ _ ra1 rc1).mono ?_
                rintro e_ wx ⟨rfl, hby⟩
                have hS' := kp (bel_tr hSd.2 hSd.2.size hby)
                try dsimp only
                refine hK _ _ hS' ?_
                clear hK K hSd
                have hSd := hS'
                clear hS'
                refine wpAnyH_take (i := 9) (v := ?_) rfl (by kernel_rfl) (by kernel_rfl) (by kernel_rfl) (fun _ _ _ h => h) (Or.inl ⟨by kernel_rfl, ?_⟩) (by assumption) ?_
                rotate_left 1
                · (intro w hSw; obtain ⟨hk1, hk2⟩ := hSw; go_simp <;> with_reducible rfl)
                simp only [Act.put, List.getElem_toArray, List.getElem_cons_zero, List.getElem_cons_succ, List.setIfInBounds_toArray, List.set_cons_zero, List.set_cons_succ]
                refine wpAnyH_take (i := 10) (v := ?_) rfl (by kernel_rfl) (by kernel_rfl) (by kernel_rfl) (fun _ _ _ h => h) (Or.inl ⟨by kernel_rfl, ?_⟩) (by assumption) ?_
                rotate_left 1
                · (intro w hSw; obtain ⟨hk1, hk2⟩ := hSw; go_simp <;> with_reducible rfl)
                simp only [Act.put, List.getElem_toArray, List.getElem_cons_zero, List.getElem_cons_succ, List.setIfInBounds_toArray, List.set_cons_zero, List.set_cons_succ]
                refine wpAnyH_take (i := 11) (v := ?_) rfl (by kernel_rfl) (by kernel_rfl) (by kernel_rfl) (fun _ _ _ h => h) (Or.inl ⟨by kernel_rfl, ?_⟩) (by assumption) ?_
                rotate_left 1
                · (intro w hSw; obtain ⟨hk1, hk2⟩ := hSw; go_simp <;> with_reducible rfl)
                simp only [Act.put, List.getElem_toArray, List.getElem_cons_zero, List.getElem_cons_succ, List.setIfInBounds_toArray, List.set_cons_zero, List.set_cons_succ]
                refine nextH (i := 12) (by kernel_rfl) rfl (fun K hK => ?_)
                go_simp
                have hBl := Blk.new wx 55 [.int .i64 0, .int .i64 0]
                have hvr : w12.heap.size ≤ (wx).heap.size := hSd.2.size
                have hS' := kp (bel_alloc hSd.2 hSd.2.size (.cells #[.int .i64 0, .int .i64 0] 55))
                refine hK _ _ hS' ?_
                clear hK K hSd
                have hSd := hS'
                clear hS'
                obtain ⟨bb, hbb⟩ : ∃ bb, wx.heap.size = bb := ⟨_, rfl⟩
                obtain ⟨Wy, hWy⟩ : ∃ Wy, wx.alloc (.cells #[.int .i64 0, .int .i64 0] 55) = Wy := ⟨_, rfl⟩
                rw [hWy] at hSd hBl ⊢
                rw [hbb] at hBl hvr
                try simp only [hbb]
                clear hWy hbb
                obtain ⟨x0, x1⟩ : (Wy).cell? ⟨bb, 0, none⟩ = some (.int .i64 0) ∧ (Wy).cell? ⟨bb, 1, none⟩ = some (.int .i64 0) := ⟨hBl.cell 0, hBl.cell 1⟩
                obtain ⟨f0, f1⟩ : (Wy).frozen? ⟨bb, 0, none⟩ = false ∧ (Wy).frozen? ⟨bb, 1, none⟩ = false := ⟨hBl.frozen 0, hBl.frozen 1⟩
                have zb := hBl.lt
                refine nextH (i := 13) (by kernel_rfl) rfl (fun K hK => ?_)
                go_simp
                obtain ⟨WE, hWE⟩ : ∃ WE, (((Wy).setCell ⟨bb, 0, none⟩ (.int .i64 0)).setCell ⟨bb, 1, none⟩ (.int .i64 0)) = WE := ⟨_, rfl⟩
                rw [hWE]
                have hE : Blk WE (bb) 55 [.int .i64 0, .int .i64 0] := by rw [← hWE]; exact ((hBl.set_ 0 _).set_ 1 _)
                have hbE : Below w12.heap.size w12 WE := by rw [← hWE]; exact ((hSd.2.setCell hvr _).setCell hvr _)
                clear hWE x0 f0 x1 f1
                refine hK _ _ (kp hbE) ?_
                clear hK K
                refine nextH (i := 14) (by kernel_rfl) rfl (fun K hK => ?_)
                go_simp
                refine hK _ _ (kp hbE) ?_
                clear hK K
                refine wpAnyH_done (by kernel_rfl) ?_ _
                go_wp2
                go_meet
                exact ⟨_, rfl, rfl, hE, hbE, hvr⟩
              ·
                go_simp
                have hBl := Blk.new wa 55 [.int .i64 0, .int .i64 0]
                have hvr : w12.heap.size ≤ (wa).heap.size := hSd.2.size
                have hS' := kp (bel_alloc hSd.2 hSd.2.size (.cells #[.int .i64 0, .int .i64 0] 55))
                refine hK _ _ hS' ?_
                clear hK K hSd
                have hSd := hS'
                clear hS'
                obtain ⟨bb, hbb⟩ : ∃ bb, wa.heap.size = bb := ⟨_, rfl⟩
                obtain ⟨Wy, hWy⟩ : ∃ Wy, wa.alloc (.cells #[.int .i64 0, .int .i64 0] 55) = Wy := ⟨_, rfl⟩
                replace ra1 := ra1.bel (alloc_bel wa (.cells #[.int .i64 0, .int .i64 0] 55))
                rw [hWy] at hSd hBl ra1 ⊢
                rw [hbb] at hBl hvr
                try simp only [hbb]
                clear hWy hbb
                refine nextH (i := 8) (by kernel_rfl) rfl (fun K hK => ?_)
                go_simp
                refine (HG1.out _ _ _ ra1 rc1).mono ?_
                rintro e_ wx ⟨rfl, hby⟩
                have hS' := kp (bel_tr hSd.2 hSd.2.size hby)
                try dsimp only
                refine hK _ _ hS' ?_
                clear hK K hSd
                have hSd := hS'
                clear hS'
                replace hBl := hBl.bel hby
                refine wpAnyH_take (i := 9) (v := ?_) rfl (by kernel_rfl) (by kernel_rfl) (by kernel_rfl) (fun _ _ _ h => h) (Or.inl ⟨by kernel_rfl, ?_⟩) (by assumption) ?_
                rotate_left 1
                · (intro w hSw; obtain ⟨hk1, hk2⟩ := hSw; go_simp <;> with_reducible rfl)
                simp only [Act.put, List.getElem_toArray, List.getElem_cons_zero, List.getElem_cons_succ, List.setIfInBounds_toArray, List.set_cons_zero, List.set_cons_succ]
                refine wpAnyH_take (i := 10) (v := ?_) rfl (by kernel_rfl) (by kernel_rfl) (by kernel_rfl) (fun _ _ _ h => h) (Or.inl ⟨by kernel_rfl, ?_⟩) (by assumption) ?_
                rotate_left 1
                · (intro w hSw; obtain ⟨hk1, hk2⟩ := hSw; go_simp <;> with_reducible rfl)
                simp only [Act.put, List.getElem_toArray, List.getElem_cons_zero, List.getElem_cons_succ, List.setIfInBounds_toArray, List.set_cons_zero, List.set_cons_succ]
                refine wpAnyH_take (i := 11) (v := ?_) rfl (by kernel_rfl) (by kernel_rfl) (by kernel_rfl) (fun _ _ _ h => h) (Or.inl ⟨by kernel_rfl, ?_⟩) (by assumption) ?_
                rotate_left 1
                · (intro w hSw; obtain ⟨hk1, hk2⟩ := hSw; go_simp <;> with_reducible rfl)
                simp only [Act.put, List.getElem_toArray, List.getElem_cons_zero, List.getElem_cons_succ, List.setIfInBounds_toArray, List.set_cons_zero, List.set_cons_succ]
                obtain ⟨x0, x1⟩ : (wx).cell? ⟨bb, 0, none⟩ = some (.int .i64 0) ∧ (wx).cell? ⟨bb, 1, none⟩ = some (.int .i64 0) := ⟨hBl.cell 0, hBl.cell 1⟩
                obtain ⟨f0, f1⟩ : (wx).frozen? ⟨bb, 0, none⟩ = false ∧ (wx).frozen? ⟨bb, 1, none⟩ = false := ⟨hBl.frozen 0, hBl.frozen 1⟩
                have zb := hBl.lt
                refine nextH (i := 13) (by kernel_rfl) rfl (fun K hK => ?_)
                go_simp
                obtain ⟨WE, hWE⟩ : ∃ WE, (((wx).setCell ⟨bb, 0, none⟩ (.int .i64 0)).setCell ⟨bb, 1, none⟩ (.int .i64 0)) = WE := ⟨_, rfl⟩
                rw [hWE]
                have hE : Blk WE (bb) 55 [.int .i64 0, .int .i64 0] := by rw [← hWE]; exact ((hBl.set_ 0 _).set_ 1 _)
                have hbE : Below w12.heap.size w12 WE := by rw [← hWE]; exact ((hSd.2.setCell hvr _).setCell hvr _)
                clear hWE x0 f0 x1 f1
                refine hK _ _ (kp hbE) ?_
                clear hK K
                refine nextH (i := 14) (by kernel_rfl) rfl (fun K hK => ?_)
                go_simp
                refine hK _ _ (kp hbE) ?_
                clear hK K
                refine wpAnyH_done (by kernel_rfl) ?_ _
                go_wp2
                go_meet
                exact ⟨_, rfl, rfl, hE, hbE, hvr⟩
            ·
              go_simp
              have hB6 : Below w12.heap.size w12 (w12.alloc (.cells #[.int .i64 0, .int .i64 0] 55)).drew := (alloc_bel w12 _).drew
              have hBl0 : Blk (w12.alloc (.cells #[.int .i64 0, .int .i64 0] 55)).drew w12.heap.size 55 [.int .i64 0, .int .i64 0] := Blk.new w12 _ [.int .i64 0, .int .i64 0]
              refine hK _ _ (kp hB6) ?_
              clear hK K hSd
              have hSd := kp hB6
              have hvr : w12.heap.size ≤ w12.heap.size := Nat.le_refl _
              refine nextH (i := 1) (by kernel_rfl) rfl (fun K hK => ?_)
              go_simp
              refine (HCP.out _ (hr12.bel hSd.2)).mono ?_
              rintro e_ wa ⟨⟨A1, c1, rfl, ra1, rc1⟩, hbx⟩
              have hS' := kp (bel_tr hSd.2 hSd.2.size hbx)
              try dsimp only
              refine hK _ _ hS' ?_
              clear hK K hSd
              have hSd := hS'
              clear hS'
              have hBl1 := hBl0.bel hbx
              clear hBl0 hB6
              refine nextH (i := 8) (by kernel_rfl) rfl (fun K hK => ?_)
              go_simp
              refine (HG1.out _ _ _ ra1 rc1).mono ?_
              rintro e_ wx ⟨rfl, hby⟩
              have hS' := kp (bel_tr hSd.2 hSd.2.size hby)
              try dsimp only
              refine hK _ _ hS' ?_
              clear hK K hSd
              have hSd := hS'
              clear hS'
              have hBl := hBl1.bel hby
              clear hBl1
              refine wpAnyH_take (i := 9) (v := ?_) rfl (by kernel_rfl) (by kernel_rfl) (by kernel_rfl) (fun _ _ _ h => h) (Or.inl ⟨by kernel_rfl, ?_⟩) (by assumption) ?_
              rotate_left 1
              · (intro w hSw; obtain ⟨hk1, hk2⟩ := hSw; go_simp <;> with_reducible rfl)
              simp only [Act.put, List.getElem_toArray, List.getElem_cons_zero, List.getElem_cons_succ, List.setIfInBounds_toArray, List.set_cons_zero, List.set_cons_succ]
              refine wpAnyH_take (i := 10) (v := ?_) rfl (by kernel_rfl) (by kernel_rfl) (by kernel_rfl) (fun _ _ _ h => h) (Or.inl ⟨by kernel_rfl, ?_⟩) (by assumption) ?_
              rotate_left 1
              · (intro w hSw; obtain ⟨hk1, hk2⟩ := hSw; go_simp <;> with_reducible rfl)
              simp only [Act.put, List.getElem_toArray, List.getElem_cons_zero, List.getElem_cons_succ, List.setIfInBounds_toArray, List.set_cons_zero, List.set_cons_succ]
              refine wpAnyH_take (i := 11) (v := ?_) rfl (by kernel_rfl) (by kernel_rfl) (by kernel_rfl) (fun _ _ _ h => h) (Or.inl ⟨by kernel_rfl, ?_⟩) (by assumption) ?_
              rotate_left 1
              · (intro w hSw; obtain ⟨hk1, hk2⟩ := hSw; go_simp <;> with_reducible rfl)
              simp only [Act.put, List.getElem_toArray, List.getElem_cons_zero, List.getElem_cons_succ, List.setIfInBounds_toArray, List.set_cons_zero, List.set_cons_succ]
              obtain ⟨x0, x1⟩ : (wx).cell? ⟨w12.heap.size, 0, none⟩ = some (.int .i64 0) ∧ (wx).cell? ⟨w12.heap.size, 1, none⟩ = some (.int .i64 0) := ⟨hBl.cell 0, hBl.cell 1⟩
              obtain ⟨f0, f1⟩ : (wx).frozen? ⟨w12.heap.size, 0, none⟩ = false ∧ (wx).frozen? ⟨w12.heap.size, 1, none⟩ = false := ⟨hBl.frozen 0, hBl.frozen 1⟩
              have zb := hBl.lt
              refine nextH (i := 13) (by kernel_rfl) rfl (fun K hK => ?_)
              go_simp
              obtain ⟨WE, hWE⟩ : ∃ WE, (((wx).setCell ⟨w12.heap.size, 0, none⟩ (.int .i64 0)).setCell ⟨w12.heap.size, 1, none⟩ (.int .i64 0)) = WE := ⟨_, rfl⟩
              rw [hWE]
              have hE : Blk WE (w12.heap.size) 55 [.int .i64 0, .int .i64 0] := by rw [← hWE]; exact ((hBl.set_ 0 _).set_ 1 _)
              have hbE : Below w12.heap.size w12 WE := by rw [← hWE]; exact ((hSd.2.setCell hvr _).setCell hvr _)
              clear hWE x0 f0 x1 f1
              refine hK _ _ (kp hbE) ?_
              clear hK K
              refine nextH (i := 14) (by kernel_rfl) rfl (fun K hK => ?_)
              go_simp
              refine hK _ _ (kp hbE) ?_
              clear hK K
              refine wpAnyH_done (by kernel_rfl) ?_ _
              go_wp2
              go_meet
              exact ⟨_, rfl, rfl, hE, hbE, hvr⟩
          obtain ⟨b4, rfl, rfl, kb4, hbb4, hgb4⟩ := hcut
          obtain ⟨w13, rfl⟩ : ∃ w13, w13 = wc := ⟨_, rfl⟩
          have x13 : w13.cell? ⟨ab, k, none⟩ = some (.int .i64 x) := (bcell hbb4).1 _ _ ykA_12 |>.trans x12
          have kP13 := kb3.bel hbb4
          have yP13 := kP13.lt
          have hb12_13 : Below w12.heap.size w12 w13 := hbb4
          have kS13 := kS12.bel hb12_13
          have kL13 := kL12.bel hb12_13
          have kA13 := kA12.bel hb12_13
          have hr13 := hr12.bel hb12_13
          have hB13 : Below q w w13 := hB12.trans (hb12_13.mono z12)
          have z13 : q ≤ w13.heap.size := by have := hb12_13.size; omega
          have ykS_13 := kS13.lt
          have ykL_13 := kL13.lt
          have ykA_13 := kA13.lt
          clear s0 s1 t0 t1 t2 t3 hB12 z12 hb12_13 kS12 kL12 kA12 hr12 ykS_12 ykL_12 ykA_12
          have s0 := kS13.cell 0; have s1 := kS13.cell 1; simp only [List.getElem?_cons_zero, List.getElem?_cons_succ] at s0 s1
          have t0 := kL13.cell 0; have t1 := kL13.cell 1; have t2 := kL13.cell 2; have t3 := kL13.cell 3; simp only [List.getElem?_cons_zero, List.getElem?_cons_succ] at t0 t1 t2 t3
          obtain ⟨p0, p1, p2⟩ : w13.cell? ⟨b3, 0, none⟩ = some (.bool false) ∧ w13.cell? ⟨b3, 1, none⟩ = some (.int .i64 0) ∧ w13.cell? ⟨b3, 2, none⟩ = some (.int .i64 0) := ⟨kP13.cell 0, kP13.cell 1, kP13.cell 2⟩
          go_upto_region 18 with fail
          go_quiet (fail)
          go_wp2
          go_roundw
          case rel => exact ⟨k + 1, by omega, by go_num, below_drewN hB13 _, kS13.drewN _, kL13.drewN _, kA13.drewN _⟩
          case measure => simp [intOf]; omega
      · generalize freqE x = e at HFE hx
        have e1 : (e != 0) = true := by simpa using hx
        clear hx
        go_wp2_with (go_at_call 24; refine (HFE.out _).mono ?_; rintro e_ w_ ⟨rfl, rfl⟩)
        go_roundw
        case rel => exact ⟨k + 1, by omega, by go_num, hB11, kS11, kL11, kA11⟩
        case measure => simp [intOf]; omega
    · obtain rfl : k = 3 := by omega
      go_wp2
      go_ret
      exact ⟨rfl, by first | exact hB11 | (rw [hq]; exact hB11)⟩
theorem secantLaw_c (H f n d n1 d1 : Int) (A : Option Addr) (c : Nat) (l : List G) (w : World) (hr : Rd w A (gs l)) (hm : l.length ≤ maxLen) (g1 : In64R n) (g2 : In64R d) (g3 : In64R n1) (g4 : In64R d1) :
    Calls Try.prog 6 #[.agg #[.int .i64 H, .slice A l.length c], .int .i64 f, .agg #[.int .i64 n, .int .i64 d, .int .i64 n1, .int .i64 d1]] w fun r w' => r = .returned (.bool true) ∧ Below w.heap.size w w' := by
  by_cases hl : l.length ≤ 14
  · by_cases he : rayE H f n d l = 0
    · by_cases hd : launchE n1 d1 = 0
      · by_cases hcm : 0 < cmpQ n d n1 d1
        · exact secantLaw_cmp H f n d n1 d1 A c l w hr hl g1 g2 g3 g4 he hd hcm
        · exact secantLaw_ok H f n d n1 d1 A c l w hr hl g1 g2 g3 g4 he hd hcm
      · exact secantLaw_lau H f n d n1 d1 A c l w hr hl g1 g2 g3 g4 he hd
    · exact secantLaw_ray H f n d n1 d1 A c l w hr hl g1 g2 g3 g4 he
  · exact secantLaw_many H f n d n1 d1 A c l w hr hl hm
end Go.Proofs.Ytkcjiejdjdcbeaa
