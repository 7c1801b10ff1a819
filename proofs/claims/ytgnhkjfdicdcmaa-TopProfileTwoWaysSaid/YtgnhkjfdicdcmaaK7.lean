/- Contracts: small words of the statement over the chapter. -/
import Derived.Test.YtgnhkjfdicdcmaaF16
import Derived.Test.YtgnhkjfdicdcmaaK5
import Derived.Test.YtgnhkjfdicdcmaaK6
namespace Go.Proofs.Ytgnhkjfdicdcmaa
open Go.RowKit
set_option maxRecDepth 100000

theorem mod_c (n by_ : Int) (w : World) (h1 : 1 ≤ by_) (h2 : by_ ≤ 1000000000) (h3 : -9223372036854775808 ≤ n) (h4 : n ≤ 9223372036854775807) :
    Calls Try.prog 67 #[.int .i64 n, .int .i64 by_] w fun r w' => r = .returned (.int .i64 (n % by_)) ∧ w = w' := by
  have e1 : (by_ == 0) = false := by simp; omega
  have e2 : (by_ == -1) = false := by simp; omega
  by_cases hn : 0 ≤ n
  · have hm0 : 0 ≤ n % by_ := Int.emod_nonneg _ (by omega)
    have hm1 : n % by_ < by_ := Int.emod_lt_of_pos _ (by omega)
    go_enter Try.func67, Try.ntmps67
    go_wp2
    go_ret
    exact ⟨rfl, rfl⟩
  · have hlo : -by_ < n.tmod by_ := Int.lt_tmod_of_pos n (by omega)
    have hhi : n.tmod by_ ≤ 0 := by
      have := Int.tmod_nonneg by_ (show 0 ≤ -n by omega)
      rw [Int.neg_tmod] at this; omega
    by_cases hz : n.tmod by_ = 0
    · have H : Hid (n % by_ = 0) := by
        show n % by_ = 0
        exact Int.emod_eq_zero_of_dvd (Int.dvd_of_tmod_eq_zero hz)
      go_enter Try.func67, Try.ntmps67
      go_wp2
      go_ret
      exact ⟨by rw [H.out]; rfl, rfl⟩
    · have H : Hid (n % by_ = n.tmod by_ + by_) := by
        show n % by_ = _
        have h5 := Int.emod_nonneg n (show by_ ≠ 0 by omega)
        have h6 := Int.emod_lt_of_pos n (show 0 < by_ by omega)
        have h7 := Int.mul_tdiv_add_tmod n by_
        have h8 := Int.mul_ediv_add_emod n by_
        have h9 : by_ * (n / by_) - by_ * (n.tdiv by_) = n.tmod by_ - n % by_ := by omega
        rw [← Int.mul_sub] at h9
        have h10 : n / by_ - n.tdiv by_ = -1 := by
          generalize n / by_ - n.tdiv by_ = q at h9
          rcases Int.lt_trichotomy q (-1) with h | h | h
          · have := Int.mul_le_mul_of_nonneg_left (show q ≤ -2 by omega) (show 0 ≤ by_ by omega); omega
          · exact h
          · have := Int.mul_le_mul_of_nonneg_left (show 0 ≤ q by omega) (show 0 ≤ by_ by omega); omega
        rw [h10] at h9
        omega
      have hneg : n.tmod by_ < 0 := by omega
      clear hz
      go_enter Try.func67, Try.ntmps67
      go_wp2
      go_ret
      exact ⟨by rw [H.out]; rfl, rfl⟩

theorem refTraceErr_c (A : Option Addr) (c : Nat) (after width : Int) (l : List PT) (w : World) (hr : Rd w A (ps l)) (hl : l.length ≤ 1000) :
    Calls Try.prog 60 #[.agg #[.slice A l.length c, .int .i64 after, .int .i64 width]] w fun r w' => r = .returned (.int .i64 (trE l after width).2) ∧ Below w.heap.size w w' := by
  have HC := hide (fun W h => refCheckTrace_c A c after width l W h hl)
  generalize (trE l after width).1 = i at HC
  generalize (trE l after width).2 = e at HC ⊢
  go_enter Try.func60, Try.ntmps60
  go_wp2_with (first | (go_at_call 55; refine (HC.out _ (hr.alloc _)).mono ?_; rintro e_ w1 ⟨rfl, hb1⟩))
  go_ret
  exact ⟨rfl, bel_tr (alloc_bel _ _) (by simp) hb1⟩
set_option maxHeartbeats 1000000 in
theorem profileAwake_c (w : World) : Calls Try.prog 66 #[] w fun r w' => r = .returned (.bool true) ∧ Below w.heap.size w w' := by
  go_enter Try.func66, Try.ntmps66
  go_upto_region 2 with (first
    | (go_at_call 68; refine (sky_c _).mono ?_; rintro e w1 ⟨⟨A1, rfl, hr1⟩, hb1⟩)
    | (go_at_call 43; refine (aw_virt _ _ hr1).mono ?_; rintro e w2 ⟨rfl, hb2⟩))
  obtain ⟨p, hp⟩ : ∃ p, w2.heap.size = p := ⟨_, rfl⟩
  obtain ⟨W2, hW2⟩ : ∃ W, w2.alloc (.cells #[.int .i64 125, .int .i64 125] 54) = W := ⟨_, rfl⟩
  have hP2 : Blk W2 p 54 [.int .i64 125, .int .i64 125] := by rw [← hW2, ← hp]; exact Blk.new w2 _ [_, _]
  have hB2 : Below w.heap.size w W2 := by rw [← hW2]; exact bel_alloc (tr hb1 hb2 hb1.size) (by have := hb1.size; have := hb2.size; omega) _
  rw [hW2]
  clear hW2 hr1 hb1 hb2
  go_upto_region 3 with (first
    | (go_at_call 69; refine (trace_c _).mono ?_; rintro e w3 ⟨⟨A3, rfl, hr3⟩, hb3⟩)
    | (go_at_call 53; refine (aw_lam _ _ hr3).mono ?_; rintro e w4 ⟨⟨A4, c4, rfl, hr4⟩, hb4⟩))
  have hB4 : Below w.heap.size w w4 := tr (tr hB2 hb3 hB2.size) hb4 (by have := hB2.size; have := hb3.size; omega)
  have hP4 := (hP2.bel hb3).bel hb4
  clear hP2 hB2 hr3 hb3 hb4
  have c0 := hP4.cell 0; have c1 := hP4.cell 1; simp only [List.getElem?_cons_zero, List.getElem?_cons_succ] at c0 c1
  have z := hP4.lt
  go_wp2_with (first
    | (go_at_call 57; refine (aw_ranges _ _ _ hr4).mono ?_; rintro e w5 ⟨rfl, hb5⟩))
  go_ret
  exact ⟨rfl, tr hB4 hb5 hB4.size⟩
end Go.Proofs.Ytgnhkjfdicdcmaa
