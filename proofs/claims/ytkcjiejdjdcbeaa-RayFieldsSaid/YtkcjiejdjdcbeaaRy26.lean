/- Contracts: the first of numbers that equals one, the greatest of numbers. -/
import Derived.Test.YtkcjiejdjdcbeaaRy15
set_option linter.unusedSimpArgs false
set_option linter.unusedVariables false
set_option linter.unusedSimpArgs false
set_option linter.unusedVariables false
namespace Go.Proofs.Ytkcjiejdjdcbeaa
open Go.RowKit
set_option maxRecDepth 100000

/-- The index of the first number that equals one; -1 if there is none. -/
def iIdx (x : Int) (l : List Int) : Int := if l.findIdx (· == x) < l.length then (l.findIdx (· == x) : Int) else -1
theorem iIdx_some {x : Int} {l : List Int} {k : Nat} (hk : k < l.length) (h0 : ∀ j (h : j < l.length), j < k → l[j] ≠ x) (hz : l[k] = x) : iIdx x l = (k : Int) := by
  have h1 : l.findIdx (· == x) = k := by
    rw [List.findIdx_eq hk]
    exact ⟨by simpa using hz, fun j hj => by simpa using h0 j (by omega) hj⟩
  unfold iIdx
  rw [h1, if_pos hk]
theorem iIdx_none {x : Int} {l : List Int} (h0 : ∀ j (h : j < l.length), l[j] ≠ x) : iIdx x l = -1 := by
  have h1 : l.findIdx (· == x) = l.length := by
    rw [List.findIdx_eq_length]
    intro y hy
    obtain ⟨j, hj, rfl⟩ := List.getElem_of_mem hy
    simpa using h0 j hj
  unfold iIdx
  rw [h1, if_neg (by omega)]
theorem indexI_c (x : Int) (l : List Int) (A : Option Addr) (c : Nat) (w : World) (hr : Rd w A (ints l)) (hl : l.length ≤ 1000) :
    Calls Try.prog 169 #[.slice A l.length c, .int .i64 x] w fun r w' => r = .returned (.int .i64 (iIdx x l)) ∧ w = w' := by
  go_enter Try.func169, Try.ntmps169
  go_wp2
  go_loop [8] (fun i => ∃ k : Nat, k ≤ l.length ∧ i = .int .i64 k ∧ Hid (∀ j (h : j < l.length), j < k → l[j] ≠ x)) (fun i => l.length - (intOf i).toNat)
  case atStart => exact ⟨0, Nat.zero_le _, rfl, fun _ _ h => by omega⟩
  case round =>
    obtain ⟨k, hk, rfl, h0⟩ := hrel
    by_cases hlt : k < l.length
    · obtain ⟨b, off, rfl, hblt, hc0⟩ := hr.int_at hlt
      by_cases hz : l[k] = x
      · have H1 : Hid (iIdx x l = (k : Int)) := iIdx_some hlt (fun j h hj => h0.out j h hj) hz
        rw [hz] at hc0
        clear hz
        go_wp2
        go_ret
        exact ⟨by rw [H1.out]; rfl, rfl⟩
      · have H1 : Hid (∀ j (h : j < l.length), j < k + 1 → l[j] ≠ x) := fun j h hj => by
          by_cases e : j = k
          · subst e; exact hz
          · exact h0.out j h (by omega)
        generalize l[k] = y at hc0 hz
        have e1 : (x == y) = false := by simpa using fun h : x = y => hz h.symm
        clear hz
        go_wp2
        go_round
        case rel => exact ⟨k + 1, by omega, by go_num, H1⟩
        case measure => simp [intOf]; omega
    · obtain rfl : k = l.length := by omega
      have H1 : Hid (iIdx x l = -1) := iIdx_none fun j h => h0.out j h h
      go_wp2
      go_ret
      exact ⟨by rw [H1.out]; rfl, rfl⟩
/-- The greatest of numbers. -/
def mxQ (l : List Int) : Int := (l.drop 1).foldl max (l.getD 0 0)
theorem mxQ_take {l : List Int} {k : Nat} (h1 : 1 ≤ k) (hk : k < l.length) : mxQ (l.take (k + 1)) = max (mxQ (l.take k)) l[k] := by
  unfold mxQ
  have e : (l.take (k + 1)).drop 1 = (l.take k).drop 1 ++ [l[k]] := by
    rw [List.take_succ_eq_append_getElem hk, List.drop_append_of_le_length (by rw [List.length_take]; omega)]
  have e2 : (l.take (k + 1)).getD 0 0 = (l.take k).getD 0 0 := by
    rw [List.getD, List.getD, List.getElem?_take, List.getElem?_take, if_pos (by omega), if_pos (by omega)]
  rw [e, e2, List.foldl_append]
  rfl
theorem maxI_c (l : List Int) (A : Option Addr) (c : Nat) (w : World) (hr : Rd w A (ints l)) (hl : l.length ≤ 1000) (hl1 : 1 ≤ l.length) :
    Calls Try.prog 170 #[.slice A l.length c] w fun r w' => r = .returned (.int .i64 (mxQ l)) ∧ w = w' := by
  obtain ⟨b, off, rfl, hblt, y0⟩ := hr.int_at (show 0 < l.length by omega)
  have HM0 : Hid (mxQ (l.take 1) = l[0]) := by
    show _ = _
    unfold mxQ
    rw [List.drop_take, List.getD, List.getElem?_take, if_pos (by omega), List.getElem?_eq_getElem (show 0 < l.length by omega)]
    simp
  generalize l[0] = z at y0 HM0
  rw [Nat.add_zero] at y0
  have i1 : ¬ (l.length : Int) < 1 := by omega
  have i2 : (0 : Int) < (l.length : Int) := by omega
  go_enter Try.func170, Try.ntmps170
  go_wp2
  go_loop [3, 4] (fun m i => ∃ k : Nat, 1 ≤ k ∧ k ≤ l.length ∧ i = .int .i64 k ∧ m = .int .i64 (mxQ (l.take k))) (fun _ i => l.length - (intOf i).toNat)
  case atStart => exact ⟨1, Nat.le_refl _, by omega, rfl, by rw [HM0.out]⟩
  case round =>
    obtain ⟨k, hk1, hk, rfl, rfl⟩ := hrel
    by_cases hlt : k < l.length
    · obtain ⟨_, _, e', _, x0⟩ := hr.int_at hlt
      injection e' with e'
      injection e' with eb eo
      subst eb eo
      have HT := mxQ_take hk1 hlt
      generalize l[k] = y at x0 HT
      generalize mxQ (l.take k) = m at HT
      by_cases hm : m < y
      · have HT2 : Hid (mxQ (l.take (k + 1)) = y) := by show _ = _; rw [HT]; omega
        clear HT
        go_wp2
        go_round
        case rel => exact ⟨k + 1, by omega, by omega, by go_num, by rw [HT2.out]⟩
        case measure => simp [intOf]; omega
      · have HT2 : Hid (mxQ (l.take (k + 1)) = m) := by show _ = _; rw [HT]; omega
        clear HT
        go_wp2
        go_round
        case rel => exact ⟨k + 1, by omega, by omega, by go_num, by rw [HT2.out]⟩
        case measure => simp [intOf]; omega
    · obtain rfl : k = l.length := by omega
      rw [List.take_length]
      go_wp2
      go_ret
      exact ⟨rfl, rfl⟩
end Go.Proofs.Ytkcjiejdjdcbeaa
