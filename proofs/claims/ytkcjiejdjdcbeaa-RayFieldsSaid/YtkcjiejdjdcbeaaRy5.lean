/- Contracts: indexes of slabs, comparisons, the errors of launches and shots. -/
import Derived.Test.YtkcjiejdjdcbeaaRy4
set_option linter.unusedSimpArgs false
set_option linter.unusedVariables false
set_option linter.unusedSimpArgs false
set_option linter.unusedVariables false
namespace Go.Proofs.Ytkcjiejdjdcbeaa
open Go.RowKit
set_option maxRecDepth 100000



/-- The index square of a slab, with what a field pulls, and without. -/
def idxW (sq f pull : Int) : G := redQ (f * (100 * f - pull) - 100 * sq) (f * (100 * f - pull))
def idxQ (sq f : Int) : G := redQ (f * f - sq) (f * f)
theorem idxW_zero (sq f : Int) : idxW sq f 0 = idxQ sq f := by
  unfold idxW idxQ
  rw [Int.sub_zero, ← Int.mul_assoc, Int.mul_comm f 100, Int.mul_assoc, ← Int.mul_sub, redQ_scale _ _ _ (by decide)]
theorem all_bd {f pull : Int} (h1 : 1 ≤ f) (h2 : f ≤ 3000) (p1 : -30000 ≤ pull) (p2 : pull ≤ 30000) (p3 : pull < 100 * f) : 1 ≤ f * (100 * f - pull) ∧ f * (100 * f - pull) ≤ 990000000 := by
  have a := Int.mul_le_mul_of_nonneg_left (show 1 ≤ 100 * f - pull by omega) (show 0 ≤ f by omega)
  have b := Int.mul_le_mul (show f ≤ 3000 from h2) (show 100 * f - pull ≤ 330000 by omega) (show 0 ≤ 100 * f - pull by omega) (by decide)
  omega
theorem indexWith_c (sq f pull : Int) (w : World) (h1 : 1 ≤ f) (h2 : f ≤ 3000) (h3 : 0 ≤ sq) (h4 : sq ≤ 9000000) (p1 : -30000 ≤ pull) (p2 : pull ≤ 30000) (p3 : pull < 100 * f) :
    Calls Try.prog 135 #[.int .i64 sq, .int .i64 f, .int .i64 pull] w fun r w' => r = .returned (.agg #[.int .i64 (idxW sq f pull).1, .int .i64 (idxW sq f pull).2]) ∧ Below w.heap.size w w' := by
  have hb := all_bd h1 h2 p1 p2 p3
  have HI : Hid (idxW sq f pull = redQ (f * (100 * f - pull) - 100 * sq) (f * (100 * f - pull))) := rfl
  have HR := hide (fun W => reduced_c (f * (100 * f - pull) - 100 * sq) (f * (100 * f - pull)) W hb.1 (by omega) (by omega) (by omega))
  rw [← HI.out] at HR
  generalize idxW sq f pull = z at HR ⊢
  obtain ⟨a, b⟩ := z
  dsimp only at HR ⊢
  obtain ⟨A, hA⟩ : ∃ A, f * (100 * f - pull) = A := ⟨_, rfl⟩
  rw [hA] at HR hb
  obtain ⟨p, hp⟩ : ∃ p, w.heap.size = p := ⟨_, rfl⟩
  obtain ⟨W, hW⟩ : ∃ W, w.alloc (.cells #[.int .i64 0, .int .i64 0] 26) = W := ⟨_, rfl⟩
  have hB0 : Below p w W := by rw [← hW, ← hp]; exact alloc_bel _ _
  have hX : Blk W p 26 [.int .i64 0, .int .i64 0] := by rw [← hW, ← hp]; exact Blk.new w _ [_, _]
  have hsz : p < W.heap.size := hX.lt
  have HW := hide hW
  clear hW
  go_enter Try.func135, Try.ntmps135
  go_upto_region 1 with fail
  rw [HW.out]
  go_upto_region 2 with fail
  clear hA HI
  go_wp2_with (go_at_call 122; refine (HR.out _).mono ?_; rintro e_ w1 ⟨rfl, hb1⟩; have hX1 := hX.bel hb1; obtain ⟨x0, x1, f0, f1⟩ := blk_two hX1)
  obtain ⟨WE, hWE⟩ : ∃ WE, (w1.setCell ⟨p, 0, none⟩ (.int .i64 a)).setCell ⟨p, 1, none⟩ (.int .i64 b) = WE := ⟨_, rfl⟩
  rw [hWE]
  have hE : Blk WE p 26 [.int .i64 a, .int .i64 b] := by rw [← hWE]; exact (hX1.set_ 0 _).set_ 1 _
  have hBE : Below p w WE := by rw [← hWE]; exact ((bel_tr hB0 (by omega) hb1).setCell (Nat.le_refl _) _).setCell (Nat.le_refl _) _
  clear hWE x0 x1 f0 f1 hX1
  have g0 := hE.cell 0; have g1 := hE.cell 1; simp only [List.getElem?_cons_zero, List.getElem?_cons_succ] at g0 g1
  exact bodyPost_ret (v := .agg #[.int .i64 a, .int .i64 b]) (by simp [results, Try.results135, go_sem, g0, g1]; try rfl) rfl ⟨rfl, by first | exact hBE | (rw [hp]; exact hBE)⟩
theorem indexOf_c (sq f : Int) (w : World) (h1 : 1 ≤ f) (h2 : f ≤ 3000) (h3 : 0 ≤ sq) (h4 : sq ≤ 9000000) :
    Calls Try.prog 99 #[.int .i64 sq, .int .i64 f] w fun r w' => r = .returned (.agg #[.int .i64 (idxQ sq f).1, .int .i64 (idxQ sq f).2]) ∧ Below w.heap.size w w' := by
  have HR := hide (fun W => indexWith_c sq f 0 W h1 h2 h3 h4 (by omega) (by omega) (by omega))
  rw [idxW_zero] at HR
  generalize idxQ sq f = z at HR ⊢
  obtain ⟨a, b⟩ := z
  dsimp only at HR ⊢
  obtain ⟨p, hp⟩ : ∃ p, w.heap.size = p := ⟨_, rfl⟩
  obtain ⟨W, hW⟩ : ∃ W, w.alloc (.cells #[.int .i64 0, .int .i64 0] 26) = W := ⟨_, rfl⟩
  have hB0 : Below p w W := by rw [← hW, ← hp]; exact alloc_bel _ _
  have hX : Blk W p 26 [.int .i64 0, .int .i64 0] := by rw [← hW, ← hp]; exact Blk.new w _ [_, _]
  have hsz : p < W.heap.size := hX.lt
  have HW := hide hW
  clear hW
  go_enter Try.func99, Try.ntmps99
  go_upto_region 1 with fail
  rw [HW.out]
  go_wp2_with (go_at_call 135; refine (HR.out _).mono ?_; rintro e_ w1 ⟨rfl, hb1⟩; have hX1 := hX.bel hb1; obtain ⟨x0, x1, f0, f1⟩ := blk_two hX1)
  obtain ⟨WE, hWE⟩ : ∃ WE, (w1.setCell ⟨p, 0, none⟩ (.int .i64 a)).setCell ⟨p, 1, none⟩ (.int .i64 b) = WE := ⟨_, rfl⟩
  rw [hWE]
  have hE : Blk WE p 26 [.int .i64 a, .int .i64 b] := by rw [← hWE]; exact (hX1.set_ 0 _).set_ 1 _
  have hBE : Below p w WE := by rw [← hWE]; exact ((bel_tr hB0 (by omega) hb1).setCell (Nat.le_refl _) _).setCell (Nat.le_refl _) _
  clear hWE x0 x1 f0 f1 hX1
  have g0 := hE.cell 0; have g1 := hE.cell 1; simp only [List.getElem?_cons_zero, List.getElem?_cons_succ] at g0 g1
  exact bodyPost_ret (v := .agg #[.int .i64 a, .int .i64 b]) (by simp [results, Try.results99, go_sem, g0, g1]; try rfl) rfl ⟨rfl, by first | exact hBE | (rw [hp]; exact hBE)⟩

def frcE (n d : Int) : Int := errIf (decide (d < 1) || decide (1 < (Int.gcd n d : Int))) 3
/-- The error of a launch. -/
def launchE (n d : Int) : Int := if d < 1 ∨ 1 < (Int.gcd n d : Int) then 3 else errIf (decide (100 < d) || outB n 0 (d - 1)) 2
theorem isLowest_c (n d : Int) (w : World) (h0 : -9223372036854775808 ≤ n) (h1 : n ≤ 9223372036854775807) (h2 : d ≤ 9223372036854775807) :
    Calls Try.prog 102 #[.agg #[.int .i64 n, .int .i64 d]] w fun r w' => r = .returned (.bool (decide (0 < d) && (Int.gcd n d : Int) == 1)) ∧ Below w.heap.size w w' := by
  have hX := Blk.new w 26 [.int .i64 n, .int .i64 d]
  have hbel := alloc_bel w (.cells #[.int .i64 n, .int .i64 d] 26)
  generalize hW : w.alloc (.cells #[.int .i64 n, .int .i64 d] 26) = W at hX hbel
  have HW := hide hW
  clear hW
  have c0 := hX.cell 0; have c1 := hX.cell 1; simp only [List.getElem?_cons_zero, List.getElem?_cons_succ] at c0 c1
  by_cases hd : 0 < d
  · have HG := hide (fun W => gcd_c n d W (by omega) h2 h0 h1)
    have e1 : decide (0 < d) = true := decide_eq_true hd
    generalize (Int.gcd n d : Int) = g at HG ⊢
    go_enter Try.func102, Try.ntmps102
    go_upto_region 1 with fail
    rw [HW.out]
    go_wp2_with (go_at_call 149; refine (HG.out _).mono ?_; rintro e_ w1 ⟨rfl, hb1⟩)
    go_ret
    exact ⟨ret_bool (by simp [hd]), bel_tr hbel hbel.size hb1⟩
  · have e1 : decide (0 < d) = false := decide_eq_false hd
    go_enter Try.func102, Try.ntmps102
    go_upto_region 1 with fail
    rw [HW.out]
    go_wp2
    go_ret
    exact ⟨ret_bool (by simp [hd]), hbel⟩
theorem frequencyErr_c (f : Int) (w : World) : Calls Try.prog 24 #[.int .i64 f] w fun r w' => r = .returned (.int .i64 (freqE f)) ∧ w = w' := by
  cases h : outB f 1 3000
  all_goals (
    have HW := hide (fun W => within_c f 1 3000 W)
    rw [h] at HW
    go_enter Try.func24, Try.ntmps24
    go_wp2_with (first | (go_at_call 48; refine (HW.out _).mono ?_; rintro e_ w_ ⟨rfl, rfl⟩))
    go_ret
    exact ⟨ret_int (by unfold freqE; rw [h]; rfl), rfl⟩)
end Go.Proofs.Ytkcjiejdjdcbeaa
