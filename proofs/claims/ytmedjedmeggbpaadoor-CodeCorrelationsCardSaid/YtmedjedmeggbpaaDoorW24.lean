/- Contracts: side lobes. -/
import Derived.Test.YtmedjedmeggbpaaDoorW23
namespace Go.Proofs.YtmedjedmeggbpaaDoor
open Go.RowKit
set_option maxRecDepth 100000

/-- The greatest size of the correlations at the lags from 1 to k. -/
def sideTo (c : List Int) : Nat → Int
  | 0 => 0
  | k + 1 => if (if sideTo c k < corrN c c (k + 1) then corrN c c (k + 1) else sideTo c k) < -(corrN c c (k + 1)) then -(corrN c c (k + 1)) else if sideTo c k < corrN c c (k + 1) then corrN c c (k + 1) else sideTo c k

theorem sideTo_succ (c : List Int) (k : Nat) (hk : 1 ≤ k) : sideTo c k = if (if sideTo c (k - 1) < corrN c c k then corrN c c k else sideTo c (k - 1)) < -(corrN c c k) then -(corrN c c k) else if sideTo c (k - 1) < corrN c c k then corrN c c k else sideTo c (k - 1) := by
  obtain ⟨j, rfl⟩ : ∃ j, k = j + 1 := ⟨k - 1, by omega⟩
  rfl

theorem sidelobe_c (l : List Int) (A : Option Addr) (c : Nat) (w : World) (hr : Rd w A (ints l)) (hs : Small l) (hl : l.length ≤ 1000) (h1 : 1 ≤ l.length) :
    Calls Tryd.prog 96 #[.slice A l.length c] w fun r w' => r = .returned (.int .i64 (sideTo l (l.length - 1))) ∧ Below w.heap.size w w' := by
  have HS := hide hs
  clear hs
  go_enter Tryd.func96, Tryd.ntmps96
  go_wp2
  go_loopw [3, 4, 5] (fun m i _ wr => ∃ k : Nat, 1 ≤ k ∧ k ≤ l.length ∧ i = .int .i64 k ∧ m = .int .i64 (sideTo l (k - 1)) ∧ Below w.heap.size w wr) (fun _ i _ _ => l.length - (intOf i).toNat)
  case atStart => exact ⟨1, Nat.le_refl _, h1, rfl, rfl, Below.refl _ _⟩
  case round =>
    obtain ⟨k, hk1, hk, rfl, rfl, hbr⟩ := hrel
    by_cases hlt : k < l.length
    · have hbd := corrN_bd HS.out HS.out (lag := k)
      have HC := hide (corr_nat l l A A c c k wr (hr.bel hbr) (hr.bel hbr) HS.out HS.out hl rfl (Nat.le_of_lt hlt))
      go_wp2_with (go_at_call 95; refine HC.out.mono ?_; rintro e w3 ⟨rfl, n3, rfl⟩)
      go_roundw
      case rel =>
        refine ⟨k + 1, by omega, by omega, by go_num, ?_, below_drewN hbr _⟩
        rw [Nat.add_sub_cancel, sideTo_succ l k hk1]
      case measure => simp [intOf]; omega
    · obtain rfl : k = l.length := by omega
      go_wp2
      go_ret
      exact ⟨rfl, hbr⟩

theorem sidelobeOf_c (l : List Int) (A : Option Addr) (c : Nat) (w : World) (hr : Rd w A (ints l)) (hl : l.length ≤ 1000) :
    Calls Tryd.prog 19 #[.slice A l.length c] w fun r w' => r = .returned (.tuple #[.int .i64 (if codeE l = 0 then sideTo l (l.length - 1) else 0), .int .i64 (codeE l)]) ∧ Below w.heap.size w w' := by
  by_cases h0 : codeE l = 0
  · have HS := hide (small_of_code h0)
    have hl1 : 1 ≤ l.length := (codeE_zero h0).1
    have e1 : (codeE l != 0) = false := by simpa using h0
    have H0 := hide h0
    rw [if_pos h0]
    clear h0
    go_enter Tryd.func19, Tryd.ntmps19
    go_wp2_with (first
      | (go_at_call 22; refine (checkCode_c l A c _ hr hl).mono ?_; rintro e w1 ⟨rfl, hb1⟩)
      | (go_at_call 96; refine (sidelobe_c l A c _ (hr.bel hb1) HS.out hl hl1).mono ?_; rintro e w2 ⟨rfl, hb2⟩))
    go_ret2
    exact ⟨by rw [H0.out]; rfl, tr hb1 hb2 hb1.size⟩
  · have e1 : (codeE l != 0) = true := by simpa using h0
    rw [if_neg h0]
    clear h0
    go_enter Tryd.func19, Tryd.ntmps19
    go_wp2_with (first
      | (go_at_call 22; refine (checkCode_c l A c _ hr hl).mono ?_; rintro e w1 ⟨rfl, hb1⟩))
    go_ret2
    exact ⟨rfl, hb1⟩
end Go.Proofs.YtmedjedmeggbpaaDoor
