/- Contracts: the reference's errors of launches, shots. -/
import Derived.Test.YtkcjiejdjdcbeaaRy6
set_option linter.unusedSimpArgs false
set_option linter.unusedVariables false
set_option linter.unusedSimpArgs false
set_option linter.unusedVariables false
namespace Go.Proofs.Ytkcjiejdjdcbeaa
open Go.RowKit
set_option maxRecDepth 100000

theorem lowest_iff {n d : Int} : (decide (0 < d) && (Int.gcd n d : Int) == 1) = true ↔ ¬ (d < 1 ∨ 1 < (Int.gcd n d : Int)) := by
  rw [Bool.and_eq_true, decide_eq_true_iff, beq_iff_eq]
  constructor
  · rintro ⟨a, b⟩ h; omega
  · intro h
    have a : 0 < d := by omega
    have := gcd_pos n d a
    exact ⟨a, by omega⟩
theorem refLaunchErr_c (n d : Int) (w : World) (h0 : -9223372036854775808 ≤ n) (h1 : n ≤ 9223372036854775807) (h2 : d ≤ 9223372036854775807) :
    Calls Try.prog 27 #[.agg #[.int .i64 n, .int .i64 d]] w fun r w' => r = .returned (.int .i64 (launchE n d)) ∧ Below w.heap.size w w' := by
  have HI := hide (fun W => isLowest_c n d W h0 h1 h2)
  have HB := hide (lowest_iff (n := n) (d := d))
  have HR : Hid (launchE n d = if d < 1 ∨ 1 < (Int.gcd n d : Int) then 3 else errIf (decide (100 < d) || outB n 0 (d - 1)) 2) := rfl
  generalize (decide (0 < d) && (Int.gcd n d : Int) == 1) = bl at HI HB
  generalize (Int.gcd n d : Int) = g at HB HR
  generalize launchE n d = e at HR ⊢
  have hX := Blk.new w 26 [.int .i64 n, .int .i64 d]
  have hbel := alloc_bel w (.cells #[.int .i64 n, .int .i64 d] 26)
  generalize hW : w.alloc (.cells #[.int .i64 n, .int .i64 d] 26) = W at hX hbel
  have HW := hide hW
  clear hW
  have c0 := hX.cell 0; have c1 := hX.cell 1; simp only [List.getElem?_cons_zero, List.getElem?_cons_succ] at c0 c1
  have hz := hX.lt
  cases bl
  · have HR2 : Hid (e = 3) := by
      show _ = _
      rw [HR.out]
      by_cases hh : d < 1 ∨ 1 < g
      · rw [if_pos hh]
      · exact absurd (HB.out.2 hh) (by simp)
    clear HR HB
    go_enter Try.func27, Try.ntmps27
    go_upto_region 1 with fail
    rw [HW.out]
    go_wp2_with (go_at_call 102; refine (HI.out _).mono ?_; rintro e_ w1 ⟨rfl, hb1⟩)
    go_ret
    exact ⟨ret_int HR2.out.symm, bel_tr hbel hbel.size hb1⟩
  · have hn := HB.out.1 rfl
    have HR2 : Hid (e = errIf (decide (100 < d) || outB n 0 (d - 1)) 2) := by show _ = _; rw [HR.out, if_neg hn]
    have hd : 1 ≤ d := by omega
    have HWI := hide (fun W => within_c n 0 (d - 1) W)
    clear HR HB hn
    by_cases h100 : 100 < d
    · rw [decide_eq_true h100, Bool.true_or] at HR2
      go_enter Try.func27, Try.ntmps27
      go_upto_region 1 with fail
      rw [HW.out]
      go_wp2_with (go_at_call 102; refine (HI.out _).mono ?_; rintro e_ w1 ⟨rfl, hb1⟩; have hX1 := hX.bel hb1; obtain ⟨x0, x1, y0, y1⟩ := blk_two hX1)
      go_ret
      exact ⟨ret_int HR2.out.symm, bel_tr hbel hbel.size hb1⟩
    · rw [decide_eq_false h100, Bool.false_or] at HR2
      cases ho : outB n 0 (d - 1)
      all_goals (
        rw [ho] at HWI HR2
        clear ho
        go_enter Try.func27, Try.ntmps27
        go_upto_region 1 with fail
        rw [HW.out]
        go_wp2_with (first
          | (go_at_call 102; refine (HI.out _).mono ?_; rintro e_ w1 ⟨rfl, hb1⟩; have hX1 := hX.bel hb1; obtain ⟨x0, x1, y0, y1⟩ := blk_two hX1)
          | (go_at_call 48; refine (HWI.out _).mono ?_; rintro e_ w_ ⟨rfl, rfl⟩))
        go_ret
        exact ⟨ret_int HR2.out.symm, bel_tr hbel hbel.size hb1⟩)
theorem refShotErr_c (f n d : Int) (w : World) (h0 : -9223372036854775808 ≤ n) (h1 : n ≤ 9223372036854775807) (h2 : d ≤ 9223372036854775807) :
    Calls Try.prog 76 #[.int .i64 f, .agg #[.int .i64 n, .int .i64 d]] w fun r w' => r = .returned (.int .i64 (shotE f n d)) ∧ Below w.heap.size w w' := by
  have HL := hide (fun W => refLaunchErr_c n d W h0 h1 h2)
  have HF := hide (fun W => frequencyErr_c f W)
  have HR : Hid (shotE f n d = firstE [freqE f, launchE n d]) := rfl
  generalize shotE f n d = e at HR ⊢
  generalize launchE n d = el at HL HR
  generalize freqE f = ef at HF HR
  have hX := Blk.new w 26 [.int .i64 n, .int .i64 d]
  have hbel := alloc_bel w (.cells #[.int .i64 n, .int .i64 d] 26)
  generalize hW : w.alloc (.cells #[.int .i64 n, .int .i64 d] 26) = W at hX hbel
  have HW := hide hW
  clear hW
  have c0 := hX.cell 0; have c1 := hX.cell 1; simp only [List.getElem?_cons_zero, List.getElem?_cons_succ] at c0 c1
  by_cases he : ef = 0
  · have e1 : (ef != 0) = false := by simp [he]
    have HR2 : Hid (e = el) := by show _ = _; rw [HR.out, he]; simp [firstE]; omega
    clear HR he
    go_enter Try.func76, Try.ntmps76
    go_upto_region 1 with fail
    rw [HW.out]
    go_wp2_with (first
      | (go_at_call 24; refine (HF.out _).mono ?_; rintro e_ w_ ⟨rfl, rfl⟩)
      | (go_at_call 27; refine (HL.out _).mono ?_; rintro e_ w1 ⟨rfl, hb1⟩))
    go_ret
    exact ⟨ret_int HR2.out.symm, bel_tr hbel hbel.size hb1⟩
  · have e1 : (ef != 0) = true := by simpa using he
    have HR2 : Hid (e = ef) := by show _ = _; rw [HR.out]; simp [firstE, he]
    clear HR he
    go_enter Try.func76, Try.ntmps76
    go_upto_region 1 with fail
    rw [HW.out]
    go_wp2_with (first
      | (go_at_call 24; refine (HF.out _).mono ?_; rintro e_ w_ ⟨rfl, rfl⟩))
    go_ret
    exact ⟨ret_int HR2.out.symm, hbel⟩
end Go.Proofs.Ytkcjiejdjdcbeaa
