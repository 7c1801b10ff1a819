/- Contracts: the reference's check of a queue, and its order. -/
import Derived.Test.YtohdjhdkmdhhcaaE66
set_option linter.unusedSimpArgs false
set_option linter.unusedVariables false
set_option linter.unusedSimpArgs false
set_option linter.unusedVariables false
namespace Go.Proofs.Ytohdjhdkmdhhcaa
open Go.RowKit
set_option maxRecDepth 100000

set_option maxHeartbeats 2000000 in
theorem refCheckQueue_c (q : List IT) (A : Option Addr) (c : Nat) (w : World) (hr : Rd w A (its q)) (hl : q.length ≤ 1000) (hc : q.length ≤ c) (hn : ∀ k (h : k < q.length), q[k].1.size ≤ 1000) :
    Calls Try.prog 12 #[.slice A q.length c] w fun r w' => r = .returned (.tuple #[.int .i64 (queE q).1, .int .i64 (queE q).2]) ∧ Below w.heap.size w w' := by
  by_cases h : 20 < q.length
  · have HR : Hid (queE q = (0, 8)) := by show _ = _; unfold queE; rw [if_pos h]
    have i0 : (20 : Int) < (q.length : Int) := by omega
    clear h
    go_enter Try.func12, Try.ntmps12
    go_wp2
    go_ret2
    exact ⟨by rw [HR.out]; rfl, Below.refl _ _⟩
  · have HR : Hid (queE q = firstBadFrom (fun k x => itemE (q.take k) x) 0 q) := by show _ = _; unfold queE; rw [if_neg h]
    have i0 : ¬ (20 : Int) < (q.length : Int) := by omega
    clear h
    go_enter Try.func12, Try.ntmps12
    go_wp2
    clear i0
    go_loopw [4] (fun i wr => ∃ k : Nat, k ≤ q.length ∧ i = .int .i64 k ∧ Below w.heap.size w wr ∧ Hid (∀ j (h : j < q.length), j < k → itemE (q.take j) q[j] = 0)) (fun i _ => q.length - (intOf i).toNat)
    case atStart => exact ⟨0, Nat.zero_le _, rfl, Below.refl _ _, fun _ _ h => by omega⟩
    case round =>
      obtain ⟨k, hk, rfl, hb, h0⟩ := hrel
      by_cases hlt : k < q.length
      · have hrr := hr.bel hb
        obtain ⟨b, off, rfl, hblt, x0, x1, x2, x3⟩ := hrr.it_at hlt
        have hrk := hrr.takeI k
        have HC := hide (fun W' (hb : Below wr.heap.size wr W') => refItemErr_c (some ⟨b, off, none⟩) c (q.take k) q[k].1 q[k].2.1 q[k].2.2.1 q[k].2.2.2 W' (hrk.bel hb) (by rw [List.length_take]; omega) (hn k hlt))
        rw [List.length_take_of_le (by omega)] at HC
        obtain ⟨e, he⟩ : ∃ e, itemE (q.take k) q[k] = e := ⟨_, rfl⟩
        rw [show itemE (q.take k) (q[k].1, q[k].2.1, q[k].2.2.1, q[k].2.2.2) = e from he] at HC
        have HG := hide he
        clear he
        have i0 : (k : Int) ≤ (c : Int) := by omega
        have hS := hb.size
        clear hrr hrk
        by_cases hz : e = 0
        · have e1 : (e != 0) = false := by simpa using hz
          have H1 : Hid (∀ j (h : j < q.length), j < k + 1 → itemE (q.take j) q[j] = 0) := fun j h hj => by
            by_cases e : j = k
            · subst e; rw [HG.out]; exact hz
            · exact h0.out j h (by omega)
          clear hz HG
          go_wp2
          go_region_held3 (fun w' => (∀ b o, b < wr.heap.size → w'.cell? ⟨b, o, none⟩ = wr.cell? ⟨b, o, none⟩) ∧ Below wr.heap.size wr w')
            ((refine kp ?_; (repeat' (first | with_reducible exact Below.refl _ _ | with_reducible exact HB1.out | with_reducible refine Below.drew ?_ | with_reducible refine bel_alloc ?_ ?_ _)); all_goals (first | omega | (simp <;> omega))))
            (first
              | (go_at_call 38; refine (HC.out _ (by (repeat' (first | with_reducible exact Below.refl _ _ | with_reducible exact HB1.out | with_reducible refine Below.drew ?_ | with_reducible refine bel_alloc ?_ ?_ _)); all_goals (first | omega | (simp <;> omega)))).mono ?_; rintro e_ w5 ⟨rfl, hb5⟩; have HB1 : Hid (Below wr.heap.size wr w5) := (by refine hide (Below.trans ?_ (hb5.mono ?_)); (repeat' (first | with_reducible exact Below.refl _ _ | with_reducible exact HB1.out | with_reducible refine Below.drew ?_ | with_reducible refine bel_alloc ?_ ?_ _)); all_goals (first | omega | (simp <;> omega))); have s1 := HB1.out.size))
          all_goals
            go_wp2
            go_roundw
            case rel => exact ⟨k + 1, by omega, by go_num, bel_tr hb hS HB1.out, H1⟩
            case measure => simp [intOf]; omega
        · have e1 : (e != 0) = true := by simpa using hz
          have HV : Hid (queE q = ((k : Int), e)) := by
            show _ = _
            have := firstBadFrom_some (fun k x => itemE (q.take k) x) q 0 k hlt (fun i hi => by simpa using h0.out i (by omega) hi) (by simp only [Nat.zero_add]; rw [HG.out]; exact hz)
            rw [HR.out, this]
            simp only [Nat.zero_add]
            rw [HG.out]
          clear hz HG
          go_wp2
          go_region_held3 (fun w' => (∀ b o, b < wr.heap.size → w'.cell? ⟨b, o, none⟩ = wr.cell? ⟨b, o, none⟩) ∧ Below wr.heap.size wr w')
            ((refine kp ?_; (repeat' (first | with_reducible exact Below.refl _ _ | with_reducible exact HB1.out | with_reducible refine Below.drew ?_ | with_reducible refine bel_alloc ?_ ?_ _)); all_goals (first | omega | (simp <;> omega))))
            (first
              | (go_at_call 38; refine (HC.out _ (by (repeat' (first | with_reducible exact Below.refl _ _ | with_reducible exact HB1.out | with_reducible refine Below.drew ?_ | with_reducible refine bel_alloc ?_ ?_ _)); all_goals (first | omega | (simp <;> omega)))).mono ?_; rintro e_ w5 ⟨rfl, hb5⟩; have HB1 : Hid (Below wr.heap.size wr w5) := (by refine hide (Below.trans ?_ (hb5.mono ?_)); (repeat' (first | with_reducible exact Below.refl _ _ | with_reducible exact HB1.out | with_reducible refine Below.drew ?_ | with_reducible refine bel_alloc ?_ ?_ _)); all_goals (first | omega | (simp <;> omega))); have s1 := HB1.out.size))
          all_goals (go_wp2; go_ret2; exact ⟨by rw [HV.out]; rfl, bel_tr hb hS HB1.out⟩)
      · have HV : Hid (queE q = (0, 0)) := by
          show _ = _
          rw [HR.out]
          exact firstBadFrom_none _ q 0 fun i hi => by simpa using h0.out i hi (by omega)
        go_wp2
        go_ret2
        exact ⟨by rw [HV.out]; rfl, hb⟩
theorem refQueueErr_c (q : List IT) (A : Option Addr) (c : Nat) (w : World) (hr : Rd w A (its q)) (hl : q.length ≤ 1000) (hc : q.length ≤ c) (hn : ∀ k (h : k < q.length), q[k].1.size ≤ 1000) :
    Calls Try.prog 16 #[.slice A q.length c] w fun r w' => r = .returned (.int .i64 (queE q).2) ∧ Below w.heap.size w w' := by
  have HC := hide (refCheckQueue_c q A c w hr hl hc hn)
  generalize (queE q).1 = a at HC
  generalize (queE q).2 = b at HC ⊢
  go_enter Try.func16, Try.ntmps16
  go_wp2_with (first | (go_at_call 12; refine HC.out.mono ?_; rintro e_ w1 ⟨rfl, hb1⟩))
  go_ret
  exact ⟨rfl, hb1⟩
end Go.Proofs.Ytohdjhdkmdhhcaa
