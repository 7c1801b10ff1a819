/- Contracts: the error of a task; the first and the greatest of numbers. -/
import Derived.Test.YtkcjiejdjdcbeaaRy15
set_option linter.unusedSimpArgs false
set_option linter.unusedVariables false
set_option linter.unusedSimpArgs false
set_option linter.unusedVariables false
namespace Go.Proofs.Ytkcjiejdjdcbeaa
open Go.RowKit
set_option maxRecDepth 100000


theorem firstBadI_c (chk : Nat → Int → Int) (f : FuncId) (l : List Int) (A : Option Addr) (c : Nat) (cap : Array Value) (w : World) (hr : Rd w A (ints l)) (hl : l.length ≤ 1000)
    (hE : ∀ (args : Array Value) (W : World), (callFunc f args).run Try.prog W = .ok (.enter f args) W)
    (hchk : ∀ (k : Nat) (h : k < l.length) (W : World), Below w.heap.size w W → Calls Try.prog f (#[.int .i64 k, .int .i64 l[k]] ++ cap) W fun r W' => r = .returned (.int .i64 (chk k l[k])) ∧ Below W.heap.size W W') :
    Calls Try.prog 166 #[.slice A l.length c, .func (.func f) #[] cap] w fun r w' => r = .returned (.tuple #[.int .i64 (firstBadFrom chk 0 l).1, .int .i64 (firstBadFrom chk 0 l).2]) ∧ Below w.heap.size w w' := by
  have HC := hide hchk
  clear hchk
  go_enter Try.func166, Try.ntmps166
  go_wp2
  go_loopw [11] (fun i wr => ∃ k : Nat, k ≤ l.length ∧ i = .int .i64 k ∧ Below w.heap.size w wr ∧ Hid (∀ j (h : j < l.length), j < k → chk j l[j] = 0)) (fun i _ => l.length - (intOf i).toNat)
  case atStart => exact ⟨0, Nat.zero_le _, rfl, Below.refl _ _, fun _ _ h => by omega⟩
  case round =>
    obtain ⟨k, hk, rfl, hb, h0⟩ := hrel
    by_cases hlt : k < l.length
    · obtain ⟨b, off, rfl, hblt, hc0⟩ := (hr.bel hb).int_at hlt
      by_cases hz : chk k l[k] = 0
      · have H1 : Hid (∀ j (h : j < l.length), j < k + 1 → chk j l[j] = 0) := fun j h hj => by
          by_cases e : j = k
          · subst e; exact hz
          · exact h0.out j h (by omega)
        go_wp2_with (refine (HC.out k hlt _ hb).mono ?_; rintro e w' ⟨rfl, hb1⟩)
        go_roundw
        case rel => exact ⟨k + 1, by omega, by go_num, tr hb hb1 (by have := hb.size; first | omega | (simp; omega)), H1⟩
        case measure => simp [intOf]; omega
      · have H1 : Hid (firstBadFrom chk 0 l = ((k : Int), chk k l[k])) := by
          have := firstBadFrom_some chk l 0 k hlt (fun i hi => by simpa using h0.out i (by omega) hi) (by simpa using hz)
          show firstBadFrom chk 0 l = _; simpa using this
        go_wp2_with (refine (HC.out k hlt _ hb).mono ?_; rintro e w' ⟨rfl, hb1⟩)
        go_ret2
        exact ⟨by rw [H1.out]; rfl, tr hb hb1 (by have := hb.size; first | omega | (simp; omega))⟩
    · have H1 : Hid (firstBadFrom chk 0 l = (0, 0)) := firstBadFrom_none chk l 0 fun i hi => by simpa using h0.out i hi (by omega)
      go_wp2
      go_ret2
      exact ⟨by rw [H1.out]; rfl, hb⟩

/-- The error of a task's frequency. -/
def tskE (fs : List Int) (k : Nat) (x : Int) : Int := firstE [freqE x, errIf (decide (0 < k) && decide (x ≤ fs.getD (k - 1) 0)) 9]
theorem taskError1_c (g lo hi x : Int) (k : Nat) (fs : List Int) (A : Option Addr) (c B : Nat) (w : World) (hX : Blk w B 95 [.int .i64 g, .int .i64 lo, .int .i64 hi, .slice A fs.length c]) (hr : Rd w A (ints fs)) (hl : fs.length ≤ 1000) (hk : k < fs.length) :
    Calls Try.prog 167 (#[.int .i64 (k : Int), .int .i64 x] ++ #[.pointer (some ⟨B, 0, none⟩)]) w fun r w' => r = .returned (.int .i64 (tskE fs k x)) ∧ Below w.heap.size w w' := by
  rw [show (#[.int .i64 (k : Int), .int .i64 x] ++ #[.pointer (some ⟨B, 0, none⟩)] : Array Value) = #[.int .i64 (k : Int), .int .i64 x, .pointer (some ⟨B, 0, none⟩)] from rfl]
  have c0 := hX.cell 0; have c1 := hX.cell 1; have c2 := hX.cell 2; have c3 := hX.cell 3; simp only [List.getElem?_cons_zero, List.getElem?_cons_succ] at c0 c1 c2 c3
  have HF := hide (fun W => frequencyError_c x W)
  by_cases hk0 : k = 0
  · have HR : Hid (tskE fs k x = firstE [freqE x, errIf false 9]) := by show _ = _; unfold tskE; rw [hk0]; rfl
    subst hk0
    generalize freqE x = ex at HF HR
    go_enter Try.func167, Try.ntmps167
    go_wp2_with (first
      | (go_at_call 98; refine (HF.out _).mono ?_; rintro e_ w_ ⟨rfl, rfl⟩)
      | (go_at_call 91; refine (errorIf_c _ _ _).mono ?_; rintro e_ w_ ⟨rfl, rfl⟩)
      | (go_at_call 90; refine (firstError_2 _ _ _).mono ?_; rintro e_ w_ ⟨rfl, rfl⟩))
    go_ret
    exact ⟨by rw [HR.out]; rfl, alloc_bel _ _⟩
  · have hk1 : k - 1 < fs.length := by omega
    obtain ⟨b, off, rfl, hblt, y0⟩ := hr.int_at hk1
    have u1 : IntKind.i64.wrap ((k : Int) - 1) = ((k - 1 : Nat) : Int) := by rw [show ((k - 1 : Nat) : Int) = (k : Int) - 1 by omega]; simp (disch := omega) only [IntWalk.i64_in]
    have i1 : ((k - 1 : Nat) : Int) < (fs.length : Int) := by omega
    have e5 : decide (0 < k) = true := decide_eq_true (by omega)
    have e6 : 0 < k := by omega
    have HR : Hid (tskE fs k x = firstE [freqE x, errIf (decide (x ≤ fs[k - 1])) 9]) := by
      show _ = _
      unfold tskE
      rw [e5, Bool.true_and, List.getD, List.getElem?_eq_getElem hk1]
      rfl
    generalize fs[k - 1] = y at y0 HR
    generalize k - 1 = km at u1 i1 y0
    generalize freqE x = ex at HF HR
    go_enter Try.func167, Try.ntmps167
    go_wp2_with (first
      | (go_at_call 98; refine (HF.out _).mono ?_; rintro e_ w_ ⟨rfl, rfl⟩)
      | (go_at_call 91; refine (errorIf_c _ _ _).mono ?_; rintro e_ w_ ⟨rfl, rfl⟩)
      | (go_at_call 90; refine (firstError_2 _ _ _).mono ?_; rintro e_ w_ ⟨rfl, rfl⟩))
    go_ret
    exact ⟨by rw [HR.out]; rfl, alloc_bel _ _⟩
end Go.Proofs.Ytkcjiejdjdcbeaa
