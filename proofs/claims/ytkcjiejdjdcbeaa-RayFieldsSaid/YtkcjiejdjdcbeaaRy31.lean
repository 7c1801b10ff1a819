/- Contracts: the reference's secant frequency; few slabs. -/
import Derived.Test.YtkcjiejdjdcbeaaRy16
set_option linter.unusedSimpArgs false
set_option linter.unusedVariables false
set_option linter.unusedSimpArgs false
set_option linter.unusedVariables false
namespace Go.Proofs.Ytkcjiejdjdcbeaa
open Go.RowKit
set_option maxRecDepth 100000

theorem few_c (H : Int) (A : Option Addr) (c : Nat) (l : List G) (w : World) : Calls Try.prog 16 #[.agg #[.int .i64 H, .slice A l.length c]] w fun r w' => r = .returned (.bool (decide ((l.length : Int) ≤ 14))) ∧ Below w.heap.size w w' := by
  have hX := Blk.new w 24 [.int .i64 H, .slice A l.length c]
  have hbel := alloc_bel w (.cells #[.int .i64 H, .slice A l.length c] 24)
  generalize hW : w.alloc (.cells #[.int .i64 H, .slice A l.length c] 24) = W at hX hbel
  have HW := hide hW
  clear hW
  have c0 := hX.cell 0; have c1 := hX.cell 1; simp only [List.getElem?_cons_zero, List.getElem?_cons_succ] at c0 c1
  go_enter Try.func16, Try.ntmps16
  go_upto_region 1 with fail
  rw [HW.out]
  go_wp2
  go_ret
  exact ⟨rfl, hbel⟩
/-- The greatest frequency whose square is small enough. -/
theorem min_root {X D : Int} {F : Nat} (hX : 0 ≤ X) (hD : 1 ≤ D) (hF : F ≤ 3000) (hlo : (F : Int) * F * D ≤ X) (hhi : ∀ f : Nat, F < f → f ≤ 3000 → X < (f : Int) * f * D) : (F : Int) = min (rootN (X / D).toNat : Int) 3000 := by
  have hq := Int.ediv_nonneg hX (show 0 ≤ D by omega)
  obtain ⟨r1, r2⟩ := toNat_root hq
  generalize rootN (X / D).toNat = r at r1 r2 ⊢
  have a1 : (F : Int) * F ≤ X / D := (Int.le_ediv_iff_mul_le (by omega)).2 hlo
  have b1 : (F : Int) ≤ r := by
    rcases Int.lt_or_le (r : Int) F with h | h
    · have := Int.mul_le_mul (show (r : Int) + 1 ≤ F by omega) (show (r : Int) + 1 ≤ F by omega) (by omega) (by omega)
      omega
    · exact h
  by_cases h3 : F = 3000
  · omega
  · have h4 := hhi (F + 1) (by omega) (by omega)
    have h5 : X / D < ((F + 1 : Nat) : Int) * ((F + 1 : Nat) : Int) := (Int.ediv_lt_iff_lt_mul (by omega)).2 h4
    have b2 : (r : Int) < F + 1 := by
      rcases Int.lt_or_le (r : Int) (F + 1) with h | h
      · exact h
      · have := Int.mul_le_mul (show ((F + 1 : Nat) : Int) ≤ r by omega) (show ((F + 1 : Nat) : Int) ≤ r by omega) (by omega) (by omega)
        omega
    omega
set_option maxHeartbeats 2000000 in
theorem refSecant_c (H n d : Int) (A : Option Addr) (c : Nat) (l : List G) (w : World) (hr : Rd w A (gs l)) (hl : l.length ≤ 1000) (hok : OkS l) (n0 : 0 ≤ n) (n1 : n < d) (d1 : d ≤ 100) :
    Calls Try.prog 28 #[.agg #[.int .i64 H, .slice A l.length c], .agg #[.int .i64 n, .int .i64 d]] w fun r w' => r = .returned (.int .i64 (min (rootN (grsQ l * d / (d - n)).toNat : Int) 3000)) ∧ Below w.heap.size w w' := by
  obtain ⟨m0, m1⟩ := grsQ_ok hok
  have mm := mul_bd m0 m1 (show 0 ≤ d by omega) d1
  have HMR := hide (fun (F : Nat) (hF : F ≤ 3000) h1 h2 => min_root (X := grsQ l * d) (D := d - n) (F := F) mm.1 (by omega) hF h1 h2)
  generalize min (rootN (grsQ l * d / (d - n)).toNat : Int) 3000 = R at HMR ⊢
  obtain ⟨q, hq⟩ : ∃ q, w.heap.size = q := ⟨_, rfl⟩
  obtain ⟨q1, hq1⟩ : ∃ q1, q + 1 = q1 := ⟨_, rfl⟩
  obtain ⟨W, hW⟩ : ∃ W, (w.alloc (.cells #[.int .i64 H, .slice A l.length c] 24)).alloc (.cells #[.int .i64 n, .int .i64 d] 26) = W := ⟨_, rfl⟩
  have hB0 : Below q w W := by rw [← hW, ← hq]; exact bel_alloc (alloc_bel _ _) (by simp) _
  have hX : Blk W q 24 [.int .i64 H, .slice A l.length c] := by rw [← hW, ← hq]; exact (Blk.new w _ [_, _]).bel (alloc_bel _ _)
  have hY : Blk W q1 26 [.int .i64 n, .int .i64 d] := by
    rw [← hW, ← hq1, ← hq]
    have := Blk.new (w.alloc (.cells #[.int .i64 H, .slice A l.length c] 24)) 26 [.int .i64 n, .int .i64 d]
    simpa using this
  have hrW := hr.bel (show Below w.heap.size w W by rw [hq]; exact hB0)
  have HW := hide hW
  clear hW
  have c0 := hX.cell 0; have c1 := hX.cell 1; simp only [List.getElem?_cons_zero, List.getElem?_cons_succ] at c0 c1
  have y0 := hY.cell 0; have y1 := hY.cell 1; simp only [List.getElem?_cons_zero, List.getElem?_cons_succ] at y0 y1
  go_enter Try.func28, Try.ntmps28
  go_upto_region 1 with fail
  try simp only [World.size_alloc, hq, hq1]
  rw [HW.out]
  go_wp2
  go_loop [5, 6] (fun m i => ∃ k : Nat, k ≤ l.length ∧ i = .int .i64 k ∧ m = .int .i64 (grsQ (l.take k))) (fun _ i => l.length - (intOf i).toNat)
  case atStart => exact ⟨0, Nat.zero_le _, rfl, rfl⟩
  case round =>
    obtain ⟨k, hk, rfl, rfl⟩ := hrel
    by_cases hlt : k < l.length
    · obtain ⟨g, off, rfl, hblt, x0, x1⟩ := hrW.g_at hlt
      have HT := grsQ_take hlt
      generalize l[k] = y at x0 x1 HT
      obtain ⟨t1, t2⟩ := y
      dsimp only at x0 x1 HT
      generalize grsQ (l.take k) = m at HT ⊢
      by_cases hm : m < t2
      · have HT2 : Hid (grsQ (l.take (k + 1)) = t2) := by show _ = _; rw [HT]; omega
        clear HT
        go_wp2
        go_round
        case rel => exact ⟨k + 1, by omega, by go_num, by rw [HT2.out]⟩
        case measure => simp [intOf]; omega
      · have HT2 : Hid (grsQ (l.take (k + 1)) = m) := by show _ = _; rw [HT]; omega
        clear HT
        go_wp2
        go_round
        case rel => exact ⟨k + 1, by omega, by go_num, by rw [HT2.out]⟩
        case measure => simp [intOf]; omega
    · obtain rfl : k = l.length := by omega
      rw [List.take_length]
      generalize grsQ l = g at HMR mm m0 m1 ⊢
      obtain ⟨X, hXx⟩ : ∃ X, g * d = X := ⟨_, rfl⟩
      rw [hXx] at HMR mm
      have wX : IntKind.i64.wrap X = X := by simp (disch := omega) only [IntWalk.i64_in]
      go_wp2
      go_loop [7] (fun i => ∃ F : Nat, F ≤ 3000 ∧ i = .int .i64 F ∧ Hid (∀ f : Nat, F < f → f ≤ 3000 → X < (f : Int) * f * (d - n))) (fun i => (intOf i).toNat)
      case atStart => exact ⟨3000, Nat.le_refl _, rfl, fun f h1 h2 => by omega⟩
      case round =>
        obtain ⟨F, hF, rfl, hhi⟩ := hrel
        by_cases hF0 : F = 0
        · subst hF0
          have HR : Hid (R = 0) := ((HMR.out 0 (by omega) (by simpa using mm.1) hhi.out).symm : R = _)
          go_wp2
          go_ret
          exact ⟨ret_int HR.out.symm, by first | exact hB0 | (rw [hq]; exact hB0)⟩
        · have iF : (0 : Int) < (F : Int) := by omega
          have i1 : 0 < F := by omega
          have mf := mul_bd (show 0 ≤ (F : Int) by omega) (show (F : Int) ≤ 3000 by omega) (show 0 ≤ (F : Int) by omega) (show (F : Int) ≤ 3000 by omega)
          have mp := mul_bd mf.1 mf.2 (show 0 ≤ d - n by omega) (show d - n ≤ 100 by omega)
          have HM1 := hide (fun h1 => HMR.out F hF h1 hhi.out)
          have HHI : Hid (X < (F : Int) * F * (d - n) → ∀ f : Nat, F - 1 < f → f ≤ 3000 → X < (f : Int) * f * (d - n)) := fun h f h1 h2 => by
            by_cases e : f = F
            · subst e; exact h
            · exact hhi.out f (by omega) h2
          obtain ⟨Q, hQ⟩ : ∃ Q, (F : Int) * F = Q := ⟨_, rfl⟩
          rw [hQ] at mf mp HM1 HHI
          obtain ⟨P, hP⟩ : ∃ P, Q * (d - n) = P := ⟨_, rfl⟩
          rw [hP] at mp HM1 HHI
          by_cases hle : P ≤ X
          · have HR : Hid (R = F) := (HM1.out hle).symm
            clear HM1 HHI HMR hhi
            go_wp2
            go_ret
            exact ⟨ret_int HR.out.symm, by first | exact hB0 | (rw [hq]; exact hB0)⟩
          · have H1 := hide (HHI.out (by omega))
            have u1 : IntKind.i64.wrap ((F : Int) - 1) = ((F - 1 : Nat) : Int) := by rw [show ((F - 1 : Nat) : Int) = (F : Int) - 1 by omega]; simp (disch := omega) only [IntWalk.i64_in]
            clear HM1 HHI HMR hhi
            go_wp2
            go_round
            case rel => exact ⟨F - 1, by omega, by first | rfl | go_num, H1⟩
            case measure => simp [intOf]; omega
end Go.Proofs.Ytkcjiejdjdcbeaa
