/- The law of skips. -/
import Derived.Test.YtkcjiejdjdcbeaaRy53a
import Derived.Test.YtkcjiejdjdcbeaaRy53b
import Derived.Test.YtkcjiejdjdcbeaaRy53c
set_option linter.unusedSimpArgs false
set_option linter.unusedVariables false
set_option linter.unusedSimpArgs false
set_option linter.unusedVariables false
namespace Go.Proofs.Ytkcjiejdjdcbeaa
open Go.RowKit
set_option maxRecDepth 100000

theorem skipsLaw_many (H f x0 x1 : Int) (A : Option Addr) (c : Nat) (l : List G) (w : World) (hr : Rd w A (gs l)) (hl : ¬ l.length ≤ 14) (hm : l.length ≤ maxLen) :
    Calls Try.prog 7 #[.agg #[.int .i64 H, .slice A l.length c], .int .i64 f, .agg #[.int .i64 x0, .int .i64 x1]] w fun r w' => r = .returned (.bool true) ∧ Below w.heap.size w w' := by
  have HFW := hide (fun W => few_c H A c l W)
  rw [decide_eq_false (show ¬ (l.length : Int) ≤ 14 by omega)] at HFW
  obtain ⟨q, hq⟩ : ∃ q, w.heap.size = q := ⟨_, rfl⟩
  obtain ⟨q1, hq1⟩ : ∃ q1, q + 1 = q1 := ⟨_, rfl⟩
  obtain ⟨Wa, hWa⟩ : ∃ Wa, w.alloc (.cells #[.int .i64 H, .slice A l.length c] 24) = Wa := ⟨_, rfl⟩
  have ba : Below w.heap.size w Wa := by rw [← hWa]; exact alloc_bel _ _
  have sa : Wa.heap.size = q1 := by rw [← hWa, ← hq1, ← hq]; simp
  have ka : Blk Wa q 24 [.int .i64 H, .slice A l.length c] := by rw [← hWa, ← hq]; exact Blk.new w _ [_, _]
  obtain ⟨w0, hWb⟩ : ∃ w0, Wa.alloc (.cells #[.int .i64 x0, .int .i64 x1] 83) = w0 := ⟨_, rfl⟩
  have bb : Below Wa.heap.size Wa w0 := by rw [← hWb]; exact alloc_bel _ _
  have kL0 : Blk w0 q1 83 [.int .i64 x0, .int .i64 x1] := by rw [← hWb, ← sa]; exact Blk.new Wa _ [_, _]
  have hAB : (w.alloc (.cells #[.int .i64 H, .slice A l.length c] 24)).alloc (.cells #[.int .i64 x0, .int .i64 x1] 83) = w0 := by rw [hWa, hWb]
  have HW := hide hAB
  have kS0 := ka.bel bb
  have hr0 := (hr.bel ba).bel bb
  have hB0 : Below q w w0 := by
    rw [hq] at ba
    exact ba.trans (bb.mono (by omega))
  have z0 : q ≤ w0.heap.size := by have := kS0.lt; omega
  clear hAB hWa hWb ba bb ka sa
  have ykS_0 := kS0.lt
  have ykL_0 := kL0.lt
  have s0 := kS0.cell 0; have s1 := kS0.cell 1; simp only [List.getElem?_cons_zero, List.getElem?_cons_succ] at s0 s1
  have t0 := kL0.cell 0; have t1 := kL0.cell 1; simp only [List.getElem?_cons_zero, List.getElem?_cons_succ] at t0 t1
  go_enter Try.func7, Try.ntmps7
  go_upto_region 1 with fail
  try simp only [World.size_alloc, hq, hq1]
  rw [HW.out]
  go_upto_region 3 with (go_at_call 15; refine (awake_c _).mono ?_; rintro e_ w1 ⟨rfl, hb1⟩)
  have hb0_1 : Below w0.heap.size w0 w1 := hb1
  have kS1 := kS0.bel hb0_1
  have kL1 := kL0.bel hb0_1
  have hr1 := hr0.bel hb0_1
  have hB1 : Below q w w1 := hB0.trans (hb0_1.mono z0)
  have z1 : q ≤ w1.heap.size := by have := hb0_1.size; omega
  have ykS_1 := kS1.lt
  have ykL_1 := kL1.lt
  clear s0 s1 t0 t1 hB0 z0 hb0_1 kS0 kL0 hr0 ykS_0 ykL_0
  have s0 := kS1.cell 0; have s1 := kS1.cell 1; simp only [List.getElem?_cons_zero, List.getElem?_cons_succ] at s0 s1
  have t0 := kL1.cell 0; have t1 := kL1.cell 1; simp only [List.getElem?_cons_zero, List.getElem?_cons_succ] at t0 t1
  go_wp2_with (go_at_call 16; refine (HFW.out _).mono ?_; rintro e_ w2 ⟨rfl, hb2⟩; have hB2 : Below q w w2 := hB1.trans (hb2.mono z1))
  go_ret
  exact ⟨rfl, by first | exact hB2 | (rw [hq]; exact hB2)⟩
theorem skipsLaw_c (H f x0 x1 : Int) (A : Option Addr) (c : Nat) (l : List G) (w : World) (hr : Rd w A (gs l)) (hm : l.length ≤ maxLen) :
    Calls Try.prog 7 #[.agg #[.int .i64 H, .slice A l.length c], .int .i64 f, .agg #[.int .i64 x0, .int .i64 x1]] w fun r w' => r = .returned (.bool true) ∧ Below w.heap.size w w' := by
  by_cases hl : l.length ≤ 14
  · by_cases hg : gridE x0 = 0
    · cases hx : outB x1 0 (x0 - 1)
      · by_cases he : (skyE H l).2 = 0
        · by_cases hf : freqE f = 0
          · cases hfd : (skAll H f x0.toNat l (List.range x0.toNat)).1
            · exact skipsLaw_od0 H f x0 x1 A c l w hr hl hg hx he hf hfd
            · exact skipsLaw_od1 H f x0 x1 A c l w hr hl hg hx he hf hfd
          · exact skipsLaw_ob H f x0 x1 A c l w hr hl hg hx he hf
        · exact skipsLaw_oa H f x0 x1 A c l w hr hl hg hx he
      · by_cases he : (skyE H l).2 = 0
        · by_cases hf : freqE f = 0
          · cases hfd : (skAll H f x0.toNat l (List.range x0.toNat)).1
            · exact skipsLaw_md0 H f x0 x1 A c l w hr hl hg hx he hf hfd
            · exact skipsLaw_md1 H f x0 x1 A c l w hr hl hg hx he hf hfd
          · exact skipsLaw_mb H f x0 x1 A c l w hr hl hg hx he hf
        · exact skipsLaw_ma H f x0 x1 A c l w hr hl hg hx he
    · by_cases he : (skyE H l).2 = 0
      · by_cases hf : freqE f = 0
        · exact skipsLaw_ic H f x0 x1 A c l w hr hl hg he hf
        · exact skipsLaw_ib H f x0 x1 A c l w hr hl hg he hf
      · exact skipsLaw_ia H f x0 x1 A c l w hr hl hg he
  · exact skipsLaw_many H f x0 x1 A c l w hr hl hm
end Go.Proofs.Ytkcjiejdjdcbeaa
