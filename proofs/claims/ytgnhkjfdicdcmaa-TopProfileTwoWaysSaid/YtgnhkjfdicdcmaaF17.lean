/- Law: indexes. -/
import Derived.Test.YtgnhkjfdicdcmaaF16
import Derived.Test.YtgnhkjfdicdcmaaG1
namespace Go.Proofs.Ytgnhkjfdicdcmaa
open Go.RowKit
set_option maxRecDepth 100000

set_option maxHeartbeats 1000000 in
theorem compare_c (n d m k : Int) (w : World) (n0 : 0 ≤ n) (n1 : n ≤ 1000000000000000000) (d0 : 1 ≤ d) (d1 : d ≤ 1000000000000000000) (m0 : 0 ≤ m) (m1 : m ≤ 1000000000000000000) (k0 : 1 ≤ k) (k1 : k ≤ 1000000000000000000) :
    Calls Try.prog 41 #[.int .i64 n, .int .i64 d, .int .i64 m, .int .i64 k] w fun r w' => r = .returned (.int .i64 (cmpI (n * k) (m * d))) ∧ w = w' := by
  go_enter Try.func41, Try.ntmps41
  go_wp2
  go_loop [0, 1, 2, 3] (fun a b c e => ∃ x y z u : Int, 0 ≤ x ∧ x ≤ 1000000000000000000 ∧ 1 ≤ y ∧ y ≤ 1000000000000000000 ∧ 0 ≤ z ∧ z ≤ 1000000000000000000 ∧ 1 ≤ u ∧ u ≤ 1000000000000000000 ∧ a = .int .i64 x ∧ b = .int .i64 y ∧ c = .int .i64 z ∧ e = .int .i64 u ∧ Hid (cmpI (x * u) (z * y) = cmpI (n * k) (m * d))) (fun _ b _ e => (intOf b).toNat + (intOf e).toNat)
  case atStart => exact ⟨n, d, m, k, n0, n1, d0, d1, m0, m1, k0, k1, rfl, rfl, rfl, rfl, rfl⟩
  case round =>
    clear n0 n1 d0 d1 m0 m1 k0 k1
    obtain ⟨x, y, z, u, x0, x1, y0, y1, z0, z1, u0, u1, rfl, rfl, rfl, rfl, HC⟩ := hrel
    have HF1 := hide (fun W => floor_c x y W (by omega) (by omega) (by omega) (by omega))
    have HF2 := hide (fun W => floor_c z u W (by omega) (by omega) (by omega) (by omega))
    have hq1 : 0 ≤ x / y := Int.ediv_nonneg (by omega) (by omega)
    have hq2 : 0 ≤ z / u := Int.ediv_nonneg (by omega) (by omega)
    have hq3 : x / y ≤ x := Int.ediv_le_self _ (by omega)
    have hq4 : z / u ≤ z := Int.ediv_le_self _ (by omega)
    have hm1 : 0 ≤ x % y := Int.emod_nonneg _ (by omega)
    have hm2 : x % y < y := Int.emod_lt_of_pos _ (by omega)
    have hm3 : 0 ≤ z % u := Int.emod_nonneg _ (by omega)
    have hm4 : z % u < u := Int.emod_lt_of_pos _ (by omega)
    have hr1 := rest_eq x y
    have hr2 := rest_eq z u
    have HLT := hide (fun h => frac_lt (n := x) (d := y) (m := z) (k := u) (by omega) (by omega) h)
    have HGT := hide (fun h => frac_lt (n := z) (d := u) (m := x) (k := y) (by omega) (by omega) h)
    have HEQ := hide (fun h => cmp_rest (n := x) (d := y) (m := z) (k := u) h)
    generalize x / y = a at HF1 hq1 hq3 hr1 HLT HGT HEQ
    generalize z / u = b at HF2 hq2 hq4 hr2 HLT HGT HEQ
    generalize x % y = xm at hm1 hm2 hr1 HEQ
    generalize z % u = zm at hm3 hm4 hr2 HEQ
    obtain ⟨p, hp⟩ : ∃ p, a * y = p := ⟨_, rfl⟩
    obtain ⟨q, hq⟩ : ∃ q, b * u = q := ⟨_, rfl⟩
    rw [hp] at hr1
    rw [hq] at hr2
    rcases Int.lt_trichotomy a b with h | h | h
    · have HX : Hid (cmpI (n * k) (m * d) = -1) := by show _ = _; rw [← HC.out]; exact cmpI_lt (HLT.out h)
      have e1 : decide (a < b) = true := decide_eq_true h
      go_wp2_with (first
        | (go_at_call 87; with_reducible refine (HF1.out _).mono ?_; rintro e_ w_ ⟨rfl, rfl⟩)
        | (go_at_call 87; with_reducible refine (HF2.out _).mono ?_; rintro e_ w_ ⟨rfl, rfl⟩))
      go_ret
      exact ⟨ret_int (by rw [HX.out]), rfl⟩
    · subst h
      have HE := hide (HEQ.out rfl)
      have e1 : decide (a < a) = false := by simp
      by_cases hx : xm = 0
      · subst hx
        by_cases hz : zm = 0
        · subst hz
          have HX : Hid (cmpI (n * k) (m * d) = 0) := by show _ = _; rw [← HC.out, HE.out]; exact cmpI_eq (by simp)
          go_wp2_with (first
            | (go_at_call 87; with_reducible refine (HF1.out _).mono ?_; rintro e_ w_ ⟨rfl, rfl⟩)
            | (go_at_call 87; with_reducible refine (HF2.out _).mono ?_; rintro e_ w_ ⟨rfl, rfl⟩))
          go_ret
          exact ⟨ret_int (by rw [HX.out]), rfl⟩
        · have HX : Hid (cmpI (n * k) (m * d) = -1) := by
            show _ = _
            rw [← HC.out, HE.out]
            refine cmpI_lt ?_
            have := Int.mul_pos (show 0 < zm by omega) (show 0 < y by omega)
            omega
          have e2 : (zm == 0) = false := by simpa using hz
          go_wp2_with (first
            | (go_at_call 87; with_reducible refine (HF1.out _).mono ?_; rintro e_ w_ ⟨rfl, rfl⟩)
            | (go_at_call 87; with_reducible refine (HF2.out _).mono ?_; rintro e_ w_ ⟨rfl, rfl⟩))
          go_ret
          exact ⟨ret_int (by rw [HX.out]), rfl⟩
      · have e2 : (xm == 0) = false := by simpa using hx
        by_cases hz : zm = 0
        · subst hz
          have HX : Hid (cmpI (n * k) (m * d) = 1) := by
            show _ = _
            rw [← HC.out, HE.out]
            refine cmpI_gt ?_
            have := Int.mul_pos (show 0 < xm by omega) (show 0 < u by omega)
            omega
          go_wp2_with (first
            | (go_at_call 87; with_reducible refine (HF1.out _).mono ?_; rintro e_ w_ ⟨rfl, rfl⟩)
            | (go_at_call 87; with_reducible refine (HF2.out _).mono ?_; rintro e_ w_ ⟨rfl, rfl⟩))
          go_ret
          exact ⟨ret_int (by rw [HX.out]), rfl⟩
        · have e3 : (zm == 0) = false := by simpa using hz
          have HX : Hid (cmpI (u * xm) (y * zm) = cmpI (n * k) (m * d)) := by show _ = _; rw [cmp_swap, ← HE.out, HC.out]
          go_wp2_with (first
            | (go_at_call 87; with_reducible refine (HF1.out _).mono ?_; rintro e_ w_ ⟨rfl, rfl⟩)
            | (go_at_call 87; with_reducible refine (HF2.out _).mono ?_; rintro e_ w_ ⟨rfl, rfl⟩))
          go_round
          case rel => exact ⟨u, zm, y, xm, by omega, by omega, by omega, by omega, by omega, by omega, by omega, by omega, rfl, by go_num, rfl, by go_num, HX⟩
          case measure => simp [intOf]; omega
    · have HX : Hid (cmpI (n * k) (m * d) = 1) := by show _ = _; rw [← HC.out]; exact cmpI_gt (HGT.out h)
      have e1 : decide (a < b) = false := decide_eq_false (by omega)
      have e2 : decide (b < a) = true := decide_eq_true h
      go_wp2_with (first
        | (go_at_call 87; with_reducible refine (HF1.out _).mono ?_; rintro e_ w_ ⟨rfl, rfl⟩)
        | (go_at_call 87; with_reducible refine (HF2.out _).mono ?_; rintro e_ w_ ⟨rfl, rfl⟩))
      go_ret
      exact ⟨ret_int (by rw [HX.out]), rfl⟩
end Go.Proofs.Ytgnhkjfdicdcmaa
