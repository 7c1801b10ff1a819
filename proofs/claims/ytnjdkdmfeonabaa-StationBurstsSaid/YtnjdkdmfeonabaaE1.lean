/- Contracts of the small checks of package station. -/
import Derived.Test.YtnjdkdmfeonabaaN0
set_option linter.unusedSimpArgs false
set_option linter.unusedVariables false
namespace Go.Proofs.Ytnjdkdmfeonabaa
open Go.RowKit
set_option maxRecDepth 100000

theorem errorIf_c (b : Bool) (e : Int) (w : World) : Calls Try.prog 26 #[.bool b, .int .i64 e] w fun r w' => r = .returned (.int .i64 (errIf b e)) ∧ w = w' := by
  cases b <;> (
    go_enter Try.func26, Try.ntmps26
    go_wp2
    go_ret
    exact ⟨rfl, rfl⟩)

theorem outside_c (n lo hi : Int) (w : World) : Calls Try.prog 44 #[.int .i64 n, .int .i64 lo, .int .i64 hi] w fun r w' => r = .returned (.bool (outB n lo hi)) ∧ w = w' := by
  by_cases h1 : n < lo
  · go_enter Try.func44, Try.ntmps44
    go_wp2
    go_ret
    exact ⟨by simp [outB, h1], rfl⟩
  · go_enter Try.func44, Try.ntmps44
    go_wp2
    go_ret
    exact ⟨by simp [outB]; omega, rfl⟩

theorem within_c (n lo hi : Int) (w : World) : Calls Try.prog 7 #[.int .i64 n, .int .i64 lo, .int .i64 hi] w fun r w' => r = .returned (.bool !(outB n lo hi)) ∧ w = w' := by
  by_cases h1 : n < lo
  · go_enter Try.func7, Try.ntmps7
    go_wp2
    go_ret
    exact ⟨ret_bool (by rw [Bool.eq_iff_iff]; simp [outB]; omega), rfl⟩
  · go_enter Try.func7, Try.ntmps7
    go_wp2
    go_ret
    exact ⟨ret_bool (by rw [Bool.eq_iff_iff]; simp [outB]; omega), rfl⟩

theorem firstError_c (l : List Int) (A : Option Addr) (c : Nat) (w : World) (hr : Rd w A (ints l)) (hl : l.length ≤ 1000) :
    Calls Try.prog 27 #[.slice A l.length c] w fun r w' => r = .returned (.int .i64 (firstE l)) ∧ w = w' := by
  go_enter Try.func27, Try.ntmps27
  go_wp2
  go_loop [4, 7] (fun e i => ∃ k : Nat, k ≤ l.length ∧ i = .int .i64 k ∧ Hid (firstE (l.take k) = 0)) (fun _ i => l.length - (intOf i).toNat)
  case atStart => exact ⟨0, Nat.zero_le _, rfl, rfl⟩
  case round =>
    obtain ⟨k, hk, rfl, h0⟩ := hrel
    by_cases hlt : k < l.length
    · obtain ⟨b, off, rfl, hb, hc0⟩ := hr.int_at hlt
      by_cases hz : l[k] = 0
      · have H1 : Hid (firstE (l.take (k + 1)) = 0) := (firstE_take_succ l k hlt h0.out).trans hz
        go_wp2
        go_round
        case rel => exact ⟨k + 1, by omega, by go_num, H1⟩
        case measure => simp [intOf]; omega
      · have H1 : Hid (firstE l = l[k]) := by
          have h2 := firstE_take_succ l k hlt h0.out
          exact (firstE_of_take l (k + 1) (by rw [h2]; exact hz)).trans h2
        go_wp2
        go_ret
        exact ⟨by rw [H1.out]; rfl, rfl⟩
    · have H1 : Hid (firstE l = 0) := by
        have := h0.out
        rwa [List.take_of_length_le (by omega)] at this
      go_wp2
      go_ret
      exact ⟨by rw [H1.out]; rfl, rfl⟩

/-- A call of firstError with errors that the call has just laid side by side. -/
theorem firstError_new (l : List Int) (xs : Array Value) (n : Nat) (hx : xs = (ints l).toArray) (hn : n = l.length) (hl : l.length ≤ 1000) (w : World) :
    Calls Try.prog 27 #[.slice (some ⟨w.heap.size, 0, none⟩) n n] (w.alloc (.cells xs 25)) fun r w' => r = .returned (.int .i64 (firstE l)) ∧ w.alloc (.cells xs 25) = w' := by
  subst hx hn
  refine firstError_c l _ _ _ ?_ hl
  intro _
  refine ⟨_, _, rfl, by simp, fun j u hu => ?_⟩
  rw [Nat.zero_add, cell_of_row _ _ j _ _ (0, 0) (heap_alloc_new w _)]
  simpa using hu
theorem firstError_newD (l : List Int) (xs : Array Value) (n : Nat) (hx : xs = (ints l).toArray) (hn : n = l.length) (hl : l.length ≤ 1000) (w : World) :
    Calls Try.prog 27 #[.slice (some ⟨w.heap.size, 0, none⟩) n n] (w.alloc (.cells xs 25)).drew fun r w' => r = .returned (.int .i64 (firstE l)) ∧ (w.alloc (.cells xs 25)).drew = w' := by
  subst hx hn
  refine firstError_c l _ _ _ ?_ hl
  intro _
  refine ⟨_, _, rfl, by simp, fun j u hu => ?_⟩
  show (w.alloc _).cell? _ = _
  rw [Nat.zero_add, cell_of_row _ _ j _ _ (0, 0) (heap_alloc_new w _)]
  simpa using hu
theorem firstError_2 (a b : Int) (w : World) : Calls Try.prog 27 #[.slice (some ⟨w.heap.size, 0, none⟩) 2 2] (w.alloc (.cells #[.int .i64 a, .int .i64 b] 25)) fun r w' => r = .returned (.int .i64 (firstE [a, b])) ∧ (w.alloc (.cells #[.int .i64 a, .int .i64 b] 25)) = w' :=
  firstError_new [a, b] _ _ rfl rfl (by simp) w
theorem firstError_2D (a b : Int) (w : World) : Calls Try.prog 27 #[.slice (some ⟨w.heap.size, 0, none⟩) 2 2] (w.alloc (.cells #[.int .i64 a, .int .i64 b] 25)).drew fun r w' => r = .returned (.int .i64 (firstE [a, b])) ∧ (w.alloc (.cells #[.int .i64 a, .int .i64 b] 25)).drew = w' :=
  firstError_newD [a, b] _ _ rfl rfl (by simp) w
theorem firstError_3 (a b c : Int) (w : World) : Calls Try.prog 27 #[.slice (some ⟨w.heap.size, 0, none⟩) 3 3] (w.alloc (.cells #[.int .i64 a, .int .i64 b, .int .i64 c] 25)) fun r w' => r = .returned (.int .i64 (firstE [a, b, c])) ∧ (w.alloc (.cells #[.int .i64 a, .int .i64 b, .int .i64 c] 25)) = w' :=
  firstError_new [a, b, c] _ _ rfl rfl (by simp) w
theorem firstError_3D (a b c : Int) (w : World) : Calls Try.prog 27 #[.slice (some ⟨w.heap.size, 0, none⟩) 3 3] (w.alloc (.cells #[.int .i64 a, .int .i64 b, .int .i64 c] 25)).drew fun r w' => r = .returned (.int .i64 (firstE [a, b, c])) ∧ (w.alloc (.cells #[.int .i64 a, .int .i64 b, .int .i64 c] 25)).drew = w' :=
  firstError_newD [a, b, c] _ _ rfl rfl (by simp) w
theorem firstError_4 (a b c d : Int) (w : World) : Calls Try.prog 27 #[.slice (some ⟨w.heap.size, 0, none⟩) 4 4] (w.alloc (.cells #[.int .i64 a, .int .i64 b, .int .i64 c, .int .i64 d] 25)) fun r w' => r = .returned (.int .i64 (firstE [a, b, c, d])) ∧ (w.alloc (.cells #[.int .i64 a, .int .i64 b, .int .i64 c, .int .i64 d] 25)) = w' :=
  firstError_new [a, b, c, d] _ _ rfl rfl (by simp) w
theorem firstError_4D (a b c d : Int) (w : World) : Calls Try.prog 27 #[.slice (some ⟨w.heap.size, 0, none⟩) 4 4] (w.alloc (.cells #[.int .i64 a, .int .i64 b, .int .i64 c, .int .i64 d] 25)).drew fun r w' => r = .returned (.int .i64 (firstE [a, b, c, d])) ∧ (w.alloc (.cells #[.int .i64 a, .int .i64 b, .int .i64 c, .int .i64 d] 25)).drew = w' :=
  firstError_newD [a, b, c, d] _ _ rfl rfl (by simp) w

theorem rangeError_c (n lo hi : Int) (w : World) : Calls Try.prog 34 #[.int .i64 n, .int .i64 lo, .int .i64 hi] w fun r w' => r = .returned (.int .i64 (errIf (outB n lo hi) 2)) ∧ w = w' := by
  go_enter Try.func34, Try.ntmps34
  go_wp2_with
    (first
      | (go_at_call 26; refine (errorIf_c _ _ _).mono ?_; rintro e_ w_ ⟨rfl, rfl⟩)
      | (go_at_call 44; refine (outside_c _ _ _ _).mono ?_; rintro e_ w_ ⟨rfl, rfl⟩))
  go_ret
  exact ⟨rfl, rfl⟩
/-- The errors of a time and of a drift. -/
def tickE (t : Int) : Int := errIf (outB t 0 1000000000000) 2
def driftE (t : Int) : Int := errIf (outB t 0 1000) 2
theorem tickError_c (n : Int) (w : World) : Calls Try.prog 30 #[.int .i64 n] w fun r w' => r = .returned (.int .i64 (tickE n)) ∧ w = w' := by
  go_enter Try.func30, Try.ntmps30
  go_wp2_with (first | (go_at_call 34; refine (rangeError_c _ _ _ _).mono ?_; rintro e_ w_ ⟨rfl, rfl⟩))
  go_ret
  exact ⟨rfl, rfl⟩
theorem driftError_c (n : Int) (w : World) : Calls Try.prog 29 #[.int .i64 n] w fun r w' => r = .returned (.int .i64 (driftE n)) ∧ w = w' := by
  go_enter Try.func29, Try.ntmps29
  go_wp2_with (first | (go_at_call 34; refine (rangeError_c _ _ _ _).mono ?_; rintro e_ w_ ⟨rfl, rfl⟩))
  go_ret
  exact ⟨rfl, rfl⟩
theorem tickE_zero {t : Int} (h : tickE t = 0) : 0 ≤ t ∧ t ≤ 1000000000000 := by
  unfold tickE at h
  by_cases e : outB t 0 1000000000000 = true
  · rw [e] at h; simp [errIf] at h
  · have := outB_false.1 (by simpa using e); omega
theorem driftE_zero {t : Int} (h : driftE t = 0) : 0 ≤ t ∧ t ≤ 1000 := by
  unfold driftE at h
  by_cases e : outB t 0 1000 = true
  · rw [e] at h; simp [errIf] at h
  · have := outB_false.1 (by simpa using e); omega

/-- A quotient rounded up. -/
def upD (n by_ : Int) : Int := (n + by_ - 1) / by_
theorem upD_bd {n d : Int} (h0 : 0 ≤ n) (d0 : 1 ≤ d) : 0 ≤ upD n d ∧ upD n d ≤ n + d - 1 := by
  have h1 := Int.ediv_nonneg (show 0 ≤ n + d - 1 by omega) (show 0 ≤ d by omega)
  exact ⟨h1, Int.ediv_le_self _ (by omega)⟩
theorem dividedUp_c (n d : Int) (w : World) (h0 : 0 ≤ n) (h1 : n ≤ 10000000000000000) (d0 : 1 ≤ d) (d1 : d ≤ 1000000) : Calls Try.prog 43 #[.int .i64 n, .int .i64 d] w fun r w' => r = .returned (.int .i64 (upD n d)) ∧ w = w' := by
  have e1 : Int.tdiv (n + d - 1) d = upD n d := Int.tdiv_eq_ediv_of_nonneg (by omega)
  have hb := upD_bd h0 d0
  go_enter Try.func43, Try.ntmps43
  go_wp2
  go_ret
  exact ⟨rfl, rfl⟩
end Go.Proofs.Ytnjdkdmfeonabaa
