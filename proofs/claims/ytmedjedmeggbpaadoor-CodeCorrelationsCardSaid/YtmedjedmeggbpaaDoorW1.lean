/- Contracts of the small checks of package code. -/
import Derived.Test.YtmedjedmeggbpaaDoorProg
import Derived.Test.YtmedjedmeggbpaaDoorBase
import Derived.Test.YtmedjedmeggbpaaDoorSpec
namespace Go.Proofs.YtmedjedmeggbpaaDoor
open Go.RowKit
set_option maxRecDepth 100000

theorem errorIf_c (b : Bool) (e : Int) (w : World) : Calls Tryd.prog 93 #[.bool b, .int .i64 e] w fun r w' => r = .returned (.int .i64 (errIf b e)) ∧ w = w' := by
  cases b <;> (
    go_enter Tryd.func93, Tryd.ntmps93
    go_wp2
    go_ret
    exact ⟨rfl, rfl⟩)

theorem outside_c (n lo hi : Int) (w : World) : Calls Tryd.prog 94 #[.int .i64 n, .int .i64 lo, .int .i64 hi] w fun r w' => r = .returned (.bool (outB n lo hi)) ∧ w = w' := by
  by_cases h1 : n < lo
  · go_enter Tryd.func94, Tryd.ntmps94
    go_wp2
    go_ret
    exact ⟨by simp [outB, h1], rfl⟩
  · go_enter Tryd.func94, Tryd.ntmps94
    go_wp2
    go_ret
    exact ⟨by simp [outB]; omega, rfl⟩

theorem firstError_c (l : List Int) (A : Option Addr) (c : Nat) (w : World) (hr : Rd w A (ints l)) (hl : l.length ≤ 1000) :
    Calls Tryd.prog 92 #[.slice A l.length c] w fun r w' => r = .returned (.int .i64 (firstE l)) ∧ w = w' := by
  go_enter Tryd.func92, Tryd.ntmps92
  go_wp2
  go_loop [4, 7] (fun e i => ∃ k : Nat, k ≤ l.length ∧ i = .int .i64 k ∧ Hid (firstE (l.take k) = 0)) (fun _ i => l.length - (intOf i).toNat)
  case atStart => exact ⟨0, Nat.zero_le _, rfl, rfl⟩
  case round =>
    obtain ⟨k, hk, rfl, h0⟩ := hrel
    by_cases hlt : k < l.length
    · obtain ⟨b, off, rfl, hb, hc0⟩ := hr.int_at hlt
      by_cases hz : l[k] = 0
      · have H1 : Hid (firstE (l.take (k + 1)) = 0) := (firstE_take_succ l k hlt h0.out).trans hz
        go_wp2
        go_round
        case rel => exact ⟨k + 1, by omega, by go_num, H1⟩
        case measure => simp [intOf]; omega
      · have H1 : Hid (firstE l = l[k]) := by
          have h2 := firstE_take_succ l k hlt h0.out
          exact (firstE_of_take l (k + 1) (by rw [h2]; exact hz)).trans h2
        go_wp2
        go_ret
        exact ⟨by rw [H1.out]; rfl, rfl⟩
    · have H1 : Hid (firstE l = 0) := by
        have := h0.out
        rwa [List.take_of_length_le (by omega)] at this
      go_wp2
      go_ret
      exact ⟨by rw [H1.out]; rfl, rfl⟩

/-- A call of firstError with errors that the call has just laid side by side. -/
theorem firstError_new (l : List Int) (xs : Array Value) (n : Nat) (hx : xs = (ints l).toArray) (hn : n = l.length) (hl : l.length ≤ 1000) (w : World) :
    Calls Tryd.prog 92 #[.slice (some ⟨w.heap.size, 0, none⟩) n n] (w.alloc (.cells xs 25)) fun r w' => r = .returned (.int .i64 (firstE l)) ∧ w.alloc (.cells xs 25) = w' := by
  subst hx hn
  refine firstError_c l _ _ _ ?_ hl
  intro _
  refine ⟨_, _, rfl, by simp, fun j u hu => ?_⟩
  rw [Nat.zero_add, cell_of_row _ _ j _ _ (0, 0) (heap_alloc_new w _)]
  simpa using hu
theorem firstError_2 (a b : Int) (w : World) : Calls Tryd.prog 92 #[.slice (some ⟨w.heap.size, 0, none⟩) 2 2] (w.alloc (.cells #[.int .i64 a, .int .i64 b] 25)) fun r w' => r = .returned (.int .i64 (firstE [a, b])) ∧ w.alloc (.cells #[.int .i64 a, .int .i64 b] 25) = w' :=
  firstError_new [a, b] _ _ rfl rfl (by simp) w
theorem firstError_3 (a b c : Int) (w : World) : Calls Tryd.prog 92 #[.slice (some ⟨w.heap.size, 0, none⟩) 3 3] (w.alloc (.cells #[.int .i64 a, .int .i64 b, .int .i64 c] 25)) fun r w' => r = .returned (.int .i64 (firstE [a, b, c])) ∧ w.alloc (.cells #[.int .i64 a, .int .i64 b, .int .i64 c] 25) = w' :=
  firstError_new [a, b, c] _ _ rfl rfl (by simp) w
theorem firstError_4 (a b c d : Int) (w : World) : Calls Tryd.prog 92 #[.slice (some ⟨w.heap.size, 0, none⟩) 4 4] (w.alloc (.cells #[.int .i64 a, .int .i64 b, .int .i64 c, .int .i64 d] 25)) fun r w' => r = .returned (.int .i64 (firstE [a, b, c, d])) ∧ w.alloc (.cells #[.int .i64 a, .int .i64 b, .int .i64 c, .int .i64 d] 25) = w' :=
  firstError_new [a, b, c, d] _ _ rfl rfl (by simp) w

theorem lengthError_c (n most : Int) (w : World) : Calls Tryd.prog 97 #[.int .i64 n, .int .i64 most] w fun r w' => r = .returned (.int .i64 (lenE n most)) ∧ Below w.heap.size w w' := by
  go_enter Tryd.func97, Tryd.ntmps97
  go_wp2_with (first | (go_at_call 93; refine (errorIf_c _ _ _).mono ?_; rintro e w' ⟨rfl, rfl⟩) | (go_at_call 92; refine (firstError_2 _ _ _).mono ?_; rintro e w' ⟨rfl, rfl⟩))
  go_ret
  exact ⟨rfl, (Below.refl _ _).alloc (Nat.le_refl _) _⟩

theorem checkCode1_c (k n : Int) (w : World) : Calls Tryd.prog 99 #[.int .i64 k, .int .i64 n] w fun r w' => r = .returned (.int .i64 (codeItem n)) ∧ w = w' := by
  by_cases h1 : n = 1
  · subst h1
    go_enter Tryd.func99, Tryd.ntmps99
    go_wp2_with (first | (go_at_call 93; refine (errorIf_c _ _ _).mono ?_; rintro e w' ⟨rfl, rfl⟩))
    go_ret
    exact ⟨rfl, rfl⟩
  · by_cases h2 : n = -1
    · subst h2
      go_enter Tryd.func99, Tryd.ntmps99
      go_wp2_with (first | (go_at_call 93; refine (errorIf_c _ _ _).mono ?_; rintro e w' ⟨rfl, rfl⟩))
      go_ret
      exact ⟨rfl, rfl⟩
    · have e1 : (n != 1) = true := by simpa using h1
      have e2 : (n != -1) = true := by simpa using h2
      have H : Hid (codeItem n = 2) := by show codeItem n = 2; simp [codeItem, h1, h2]
      clear h1 h2
      go_enter Tryd.func99, Tryd.ntmps99
      go_wp2_with (first | (go_at_call 93; refine (errorIf_c _ _ _).mono ?_; rintro e w' ⟨rfl, rfl⟩))
      go_ret
      exact ⟨by rw [H.out]; rfl, rfl⟩

/-- firstBad at numbers, with a check that answers by a plain function of the item and its index, and leaves what was there as it was. -/
theorem firstBadInt_c (chk : Nat → Int → Int) (f : FuncId) (l : List Int) (A : Option Addr) (c : Nat) (cap : Array Value) (w : World) (hr : Rd w A (ints l)) (hl : l.length ≤ 1000)
    (hE : ∀ (args : Array Value) (W : World), (callFunc f args).run Tryd.prog W = .ok (.enter f args) W)
    (hchk : ∀ (k : Nat) (h : k < l.length) (W : World), Below w.heap.size w W → Calls Tryd.prog f (#[.int .i64 k, .int .i64 l[k]] ++ cap) W fun r W' => r = .returned (.int .i64 (chk k l[k])) ∧ Below W.heap.size W W') :
    Calls Tryd.prog 98 #[.slice A l.length c, .func (.func f) #[] cap] w fun r w' => r = .returned (.tuple #[.int .i64 (firstBadFrom chk 0 l).1, .int .i64 (firstBadFrom chk 0 l).2]) ∧ Below w.heap.size w w' := by
  have HC := hide hchk
  clear hchk
  go_enter Tryd.func98, Tryd.ntmps98
  go_wp2
  go_loopw [11] (fun i wr => ∃ k : Nat, k ≤ l.length ∧ i = .int .i64 k ∧ Below w.heap.size w wr ∧ Hid (∀ j (h : j < l.length), j < k → chk j l[j] = 0)) (fun i _ => l.length - (intOf i).toNat)
  case atStart => exact ⟨0, Nat.zero_le _, rfl, Below.refl _ _, fun _ _ h => by omega⟩
  case round =>
    obtain ⟨k, hk, rfl, hb, h0⟩ := hrel
    by_cases hlt : k < l.length
    · obtain ⟨b, off, rfl, hblt, hc0⟩ := (hr.bel hb).int_at hlt
      by_cases hz : chk k l[k] = 0
      · have H1 : Hid (∀ j (h : j < l.length), j < k + 1 → chk j l[j] = 0) := fun j h hj => by
          by_cases e : j = k
          · subst e; exact hz
          · exact h0.out j h (by omega)
        go_wp2_with (refine (HC.out k hlt _ hb).mono ?_; rintro e w' ⟨rfl, hb1⟩)
        go_roundw
        case rel => exact ⟨k + 1, by omega, by go_num, tr hb hb1 hb.size, H1⟩
        case measure => simp [intOf]; omega
      · have H1 : Hid (firstBadFrom chk 0 l = ((k : Int), chk k l[k])) := by
          have := firstBadFrom_some chk l 0 k hlt (fun i hi => by simpa using h0.out i (by omega) hi) (by simpa using hz)
          show firstBadFrom chk 0 l = _; simpa using this
        go_wp2_with (refine (HC.out k hlt _ hb).mono ?_; rintro e w' ⟨rfl, hb1⟩)
        go_ret2
        exact ⟨by rw [H1.out]; rfl, tr hb hb1 hb.size⟩
    · have H1 : Hid (firstBadFrom chk 0 l = (0, 0)) := firstBadFrom_none chk l 0 fun i hi => by simpa using h0.out i hi (by omega)
      go_wp2
      go_ret2
      exact ⟨by rw [H1.out]; rfl, hb⟩
end Go.Proofs.YtmedjedmeggbpaaDoor
