/- Contracts of the small checks of package ray. -/
import Derived.Test.YtkcjiejdjdcbeaaN0
set_option linter.unusedSimpArgs false
set_option linter.unusedVariables false
namespace Go.Proofs.Ytkcjiejdjdcbeaa
open Go.RowKit
set_option maxRecDepth 100000

theorem errorIf_c (b : Bool) (e : Int) (w : World) : Calls Try.prog 91 #[.bool b, .int .i64 e] w fun r w' => r = .returned (.int .i64 (errIf b e)) ∧ w = w' := by
  cases b <;> (
    go_enter Try.func91, Try.ntmps91
    go_wp2
    go_ret
    exact ⟨rfl, rfl⟩)

theorem outside_c (n lo hi : Int) (w : World) : Calls Try.prog 92 #[.int .i64 n, .int .i64 lo, .int .i64 hi] w fun r w' => r = .returned (.bool (outB n lo hi)) ∧ w = w' := by
  by_cases h1 : n < lo
  · go_enter Try.func92, Try.ntmps92
    go_wp2
    go_ret
    exact ⟨by simp [outB, h1], rfl⟩
  · go_enter Try.func92, Try.ntmps92
    go_wp2
    go_ret
    exact ⟨by simp [outB]; omega, rfl⟩

theorem within_c (n lo hi : Int) (w : World) : Calls Try.prog 48 #[.int .i64 n, .int .i64 lo, .int .i64 hi] w fun r w' => r = .returned (.bool !(outB n lo hi)) ∧ w = w' := by
  by_cases h1 : n < lo
  · go_enter Try.func48, Try.ntmps48
    go_wp2
    go_ret
    exact ⟨ret_bool (by rw [Bool.eq_iff_iff]; simp [outB]; omega), rfl⟩
  · go_enter Try.func48, Try.ntmps48
    go_wp2
    go_ret
    exact ⟨ret_bool (by rw [Bool.eq_iff_iff]; simp [outB]; omega), rfl⟩

theorem firstError_c (l : List Int) (A : Option Addr) (c : Nat) (w : World) (hr : Rd w A (ints l)) (hl : l.length ≤ 1000) :
    Calls Try.prog 90 #[.slice A l.length c] w fun r w' => r = .returned (.int .i64 (firstE l)) ∧ w = w' := by
  go_enter Try.func90, Try.ntmps90
  go_wp2
  go_loop [4, 7] (fun e i => ∃ k : Nat, k ≤ l.length ∧ i = .int .i64 k ∧ Hid (firstE (l.take k) = 0)) (fun _ i => l.length - (intOf i).toNat)
  case atStart => exact ⟨0, Nat.zero_le _, rfl, rfl⟩
  case round =>
    obtain ⟨k, hk, rfl, h0⟩ := hrel
    by_cases hlt : k < l.length
    · obtain ⟨b, off, rfl, hb, hc0⟩ := hr.int_at hlt
      by_cases hz : l[k] = 0
      · have H1 : Hid (firstE (l.take (k + 1)) = 0) := (firstE_take_succ l k hlt h0.out).trans hz
        go_wp2
        go_round
        case rel => exact ⟨k + 1, by omega, by go_num, H1⟩
        case measure => simp [intOf]; omega
      · have H1 : Hid (firstE l = l[k]) := by
          have h2 := firstE_take_succ l k hlt h0.out
          exact (firstE_of_take l (k + 1) (by rw [h2]; exact hz)).trans h2
        go_wp2
        go_ret
        exact ⟨by rw [H1.out]; rfl, rfl⟩
    · have H1 : Hid (firstE l = 0) := by
        have := h0.out
        rwa [List.take_of_length_le (by omega)] at this
      go_wp2
      go_ret
      exact ⟨by rw [H1.out]; rfl, rfl⟩

/-- A call of firstError with errors that the call has just laid side by side. -/
theorem firstError_new (l : List Int) (xs : Array Value) (n : Nat) (hx : xs = (ints l).toArray) (hn : n = l.length) (hl : l.length ≤ 1000) (w : World) :
    Calls Try.prog 90 #[.slice (some ⟨w.heap.size, 0, none⟩) n n] (w.alloc (.cells xs 29)) fun r w' => r = .returned (.int .i64 (firstE l)) ∧ w.alloc (.cells xs 29) = w' := by
  subst hx hn
  refine firstError_c l _ _ _ ?_ hl
  intro _
  refine ⟨_, _, rfl, by simp, fun j u hu => ?_⟩
  rw [Nat.zero_add, cell_of_row _ _ j _ _ (0, 0) (heap_alloc_new w _)]
  simpa using hu
theorem firstError_newD (l : List Int) (xs : Array Value) (n : Nat) (hx : xs = (ints l).toArray) (hn : n = l.length) (hl : l.length ≤ 1000) (w : World) :
    Calls Try.prog 90 #[.slice (some ⟨w.heap.size, 0, none⟩) n n] (w.alloc (.cells xs 29)).drew fun r w' => r = .returned (.int .i64 (firstE l)) ∧ (w.alloc (.cells xs 29)).drew = w' := by
  subst hx hn
  refine firstError_c l _ _ _ ?_ hl
  intro _
  refine ⟨_, _, rfl, by simp, fun j u hu => ?_⟩
  show (w.alloc _).cell? _ = _
  rw [Nat.zero_add, cell_of_row _ _ j _ _ (0, 0) (heap_alloc_new w _)]
  simpa using hu
theorem firstError_2 (a b : Int) (w : World) : Calls Try.prog 90 #[.slice (some ⟨w.heap.size, 0, none⟩) 2 2] (w.alloc (.cells #[.int .i64 a, .int .i64 b] 29)) fun r w' => r = .returned (.int .i64 (firstE [a, b])) ∧ (w.alloc (.cells #[.int .i64 a, .int .i64 b] 29)) = w' :=
  firstError_new [a, b] _ _ rfl rfl (by simp) w
theorem firstError_2D (a b : Int) (w : World) : Calls Try.prog 90 #[.slice (some ⟨w.heap.size, 0, none⟩) 2 2] (w.alloc (.cells #[.int .i64 a, .int .i64 b] 29)).drew fun r w' => r = .returned (.int .i64 (firstE [a, b])) ∧ (w.alloc (.cells #[.int .i64 a, .int .i64 b] 29)).drew = w' :=
  firstError_newD [a, b] _ _ rfl rfl (by simp) w
theorem firstError_3 (a b c : Int) (w : World) : Calls Try.prog 90 #[.slice (some ⟨w.heap.size, 0, none⟩) 3 3] (w.alloc (.cells #[.int .i64 a, .int .i64 b, .int .i64 c] 29)) fun r w' => r = .returned (.int .i64 (firstE [a, b, c])) ∧ (w.alloc (.cells #[.int .i64 a, .int .i64 b, .int .i64 c] 29)) = w' :=
  firstError_new [a, b, c] _ _ rfl rfl (by simp) w
theorem firstError_3D (a b c : Int) (w : World) : Calls Try.prog 90 #[.slice (some ⟨w.heap.size, 0, none⟩) 3 3] (w.alloc (.cells #[.int .i64 a, .int .i64 b, .int .i64 c] 29)).drew fun r w' => r = .returned (.int .i64 (firstE [a, b, c])) ∧ (w.alloc (.cells #[.int .i64 a, .int .i64 b, .int .i64 c] 29)).drew = w' :=
  firstError_newD [a, b, c] _ _ rfl rfl (by simp) w
theorem firstError_4 (a b c d : Int) (w : World) : Calls Try.prog 90 #[.slice (some ⟨w.heap.size, 0, none⟩) 4 4] (w.alloc (.cells #[.int .i64 a, .int .i64 b, .int .i64 c, .int .i64 d] 29)) fun r w' => r = .returned (.int .i64 (firstE [a, b, c, d])) ∧ (w.alloc (.cells #[.int .i64 a, .int .i64 b, .int .i64 c, .int .i64 d] 29)) = w' :=
  firstError_new [a, b, c, d] _ _ rfl rfl (by simp) w
theorem firstError_4D (a b c d : Int) (w : World) : Calls Try.prog 90 #[.slice (some ⟨w.heap.size, 0, none⟩) 4 4] (w.alloc (.cells #[.int .i64 a, .int .i64 b, .int .i64 c, .int .i64 d] 29)).drew fun r w' => r = .returned (.int .i64 (firstE [a, b, c, d])) ∧ (w.alloc (.cells #[.int .i64 a, .int .i64 b, .int .i64 c, .int .i64 d] 29)).drew = w' :=
  firstError_newD [a, b, c, d] _ _ rfl rfl (by simp) w


def freqE (f : Int) : Int := errIf (outB f 1 3000) 2
def gridE (g : Int) : Int := errIf (outB g 1 100) 2
theorem frequencyError_c (n : Int) (w : World) : Calls Try.prog 98 #[.int .i64 n] w fun r w' => r = .returned (.int .i64 (freqE n)) ∧ w = w' := by
  go_enter Try.func98, Try.ntmps98
  go_wp2_with
    (first
      | (go_at_call 91; refine (errorIf_c _ _ _).mono ?_; rintro e_ w_ ⟨rfl, rfl⟩)
      | (go_at_call 92; refine (outside_c _ _ _ _).mono ?_; rintro e_ w_ ⟨rfl, rfl⟩))
  go_ret
  exact ⟨rfl, rfl⟩
theorem gridError_c (n : Int) (w : World) : Calls Try.prog 120 #[.int .i64 n] w fun r w' => r = .returned (.int .i64 (gridE n)) ∧ w = w' := by
  go_enter Try.func120, Try.ntmps120
  go_wp2_with
    (first
      | (go_at_call 91; refine (errorIf_c _ _ _).mono ?_; rintro e_ w_ ⟨rfl, rfl⟩)
      | (go_at_call 92; refine (outside_c _ _ _ _).mono ?_; rintro e_ w_ ⟨rfl, rfl⟩))
  go_ret
  exact ⟨rfl, rfl⟩
theorem isLaunch_c (g n : Int) (w : World) (h0 : -9000000000000000000 ≤ g) (h1 : g ≤ 9000000000000000000) : Calls Try.prog 121 #[.int .i64 g, .int .i64 n] w fun r w' => r = .returned (.bool !(outB n 0 (g - 1))) ∧ w = w' := by
  go_enter Try.func121, Try.ntmps121
  go_wp2_with
    (first
      | (go_at_call 92; refine (outside_c _ _ _ _).mono ?_; rintro e_ w_ ⟨rfl, rfl⟩))
  go_ret
  exact ⟨rfl, rfl⟩
theorem firstError_6 (a b c d e f : Int) (w : World) : Calls Try.prog 90 #[.slice (some ⟨w.heap.size, 0, none⟩) 6 6] (w.alloc (.cells #[.int .i64 a, .int .i64 b, .int .i64 c, .int .i64 d, .int .i64 e, .int .i64 f] 29)) fun r w' => r = .returned (.int .i64 (firstE [a, b, c, d, e, f])) ∧ w.alloc (.cells #[.int .i64 a, .int .i64 b, .int .i64 c, .int .i64 d, .int .i64 e, .int .i64 f] 29) = w' :=
  firstError_new [a, b, c, d, e, f] _ 6 rfl rfl (by simp) w
theorem firstError_6D (a b c d e f : Int) (w : World) : Calls Try.prog 90 #[.slice (some ⟨w.heap.size, 0, none⟩) 6 6] (w.alloc (.cells #[.int .i64 a, .int .i64 b, .int .i64 c, .int .i64 d, .int .i64 e, .int .i64 f] 29)).drew fun r w' => r = .returned (.int .i64 (firstE [a, b, c, d, e, f])) ∧ (w.alloc (.cells #[.int .i64 a, .int .i64 b, .int .i64 c, .int .i64 d, .int .i64 e, .int .i64 f] 29)).drew = w' :=
  firstError_newD [a, b, c, d, e, f] _ 6 rfl rfl (by simp) w
end Go.Proofs.Ytkcjiejdjdcbeaa
