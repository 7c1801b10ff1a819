/- Contracts: an order of lists. -/
import Derived.Test.YtmdmkmfemhkfgaaE35
set_option linter.unusedSimpArgs false
set_option linter.unusedVariables false
set_option linter.unusedSimpArgs false
set_option linter.unusedVariables false
namespace Go.Proofs.Ytmdmkmfemhkfgaa
open Go.RowKit
set_option maxRecDepth 100000

/-- Whether a list comes before another one. -/
def lexB : List Int → List Int → Bool
  | [], [] => false
  | [], _ :: _ => true
  | _ :: _, [] => false
  | x :: a, y :: b => if x = y then lexB a b else decide (x < y)
theorem lexB_drop (a b : List Int) (k : Nat) (ha : k < a.length) (hb : k < b.length) : lexB (a.drop k) (b.drop k) = if a[k] = b[k] then lexB (a.drop (k + 1)) (b.drop (k + 1)) else decide (a[k] < b[k]) := by
  rw [List.drop_eq_getElem_cons ha, List.drop_eq_getElem_cons hb]
  rfl
set_option maxHeartbeats 1000000 in
theorem before_c (a b : List Int) (A B : Option Addr) (c d : Nat) (w : World) (hr : Rd w A (ints a)) (hs : Rd w B (ints b)) (hl : a.length ≤ 1000) (hm : b.length ≤ 1000) :
    Calls Try.prog 82 #[.slice A a.length c, .slice B b.length d] w fun r w' => r = .returned (.bool (lexB a b)) ∧ Below w.heap.size w w' := by
  go_enter Try.func82, Try.ntmps82
  go_wp2
  go_loopw [5] (fun i wr => ∃ k : Nat, k ≤ a.length ∧ k ≤ b.length ∧ i = .int .i64 k ∧ Below w.heap.size w wr ∧ Hid (lexB a b = lexB (a.drop k) (b.drop k))) (fun i _ => a.length - (intOf i).toNat)
  case atStart => exact ⟨0, Nat.zero_le _, Nat.zero_le _, rfl, Below.refl _ _, rfl⟩
  case round =>
    obtain ⟨k, hk, hk', rfl, hb, h0⟩ := hrel
    by_cases hlt : k < a.length
    · have p1 : (k : Int) < (a.length : Int) := by omega
      by_cases hlt' : k < b.length
      · have p2 : (k : Int) < (b.length : Int) := by omega
        have HD := hide (lexB_drop a b k hlt hlt')
        obtain ⟨g, off, rfl, hg, x0⟩ := (hr.bel hb).int_at hlt
        obtain ⟨g', off', rfl, hg', y0⟩ := (hs.bel hb).int_at hlt'
        generalize a[k] = x at x0 HD
        generalize b[k] = y at y0 HD
        by_cases hz : x = y
        · have e1 : (x != y) = false := by simpa using hz
          have H1 : Hid (lexB a b = lexB (a.drop (k + 1)) (b.drop (k + 1))) := by show _ = _; rw [h0.out, HD.out, if_pos hz]
          clear HD hz
          go_wp2
          go_quiet (fail)
          go_wp2
          go_roundw
          case rel => exact ⟨k + 1, by omega, by omega, by go_num, below_drewN hb _, H1⟩
          case measure => simp [intOf]; omega
        · have e1 : (x != y) = true := by simpa using hz
          have H1 : Hid (lexB a b = decide (x < y)) := by show _ = _; rw [h0.out, HD.out, if_neg hz]
          clear HD hz
          go_wp2
          go_quiet (fail)
          go_wp2
          go_quiet (fail)
          go_wp2
          go_ret
          exact ⟨by rw [H1.out]; rfl, by first | exact below_drewN hb _ | exact below_drewN (below_drewN hb _) _⟩
      · have p2 : ¬ (k : Int) < (b.length : Int) := by omega
        have p3 : ¬ (a.length : Int) < (b.length : Int) := by omega
        have H1 : Hid (lexB a b = false) := by
          show _ = _
          rw [h0.out, List.drop_eq_nil_of_le (show b.length ≤ k by omega), List.drop_eq_getElem_cons hlt]
          rfl
        go_wp2
        go_ret
        exact ⟨by rw [H1.out]; rfl, hb⟩
    · have p1 : ¬ (k : Int) < (a.length : Int) := by omega
      have hka : k = a.length := by omega
      by_cases hlt' : k < b.length
      · have p3 : (a.length : Int) < (b.length : Int) := by omega
        have H1 : Hid (lexB a b = true) := by
          show _ = _
          rw [h0.out, List.drop_eq_nil_of_le (show a.length ≤ k by omega), List.drop_eq_getElem_cons hlt']
          rfl
        clear hka
        go_wp2
        go_ret
        exact ⟨by rw [H1.out]; rfl, hb⟩
      · have p3 : ¬ (a.length : Int) < (b.length : Int) := by omega
        have H1 : Hid (lexB a b = false) := by
          show _ = _
          rw [h0.out, List.drop_eq_nil_of_le (show a.length ≤ k by omega), List.drop_eq_nil_of_le (show b.length ≤ k by omega)]
          rfl
        clear hka
        go_wp2
        go_ret
        exact ⟨by rw [H1.out]; rfl, hb⟩
end Go.Proofs.Ytmdmkmfemhkfgaa
