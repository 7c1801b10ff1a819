/- The law of queues. -/
import Derived.Test.YtohdjhdkmdhhcaaE71
import Derived.Test.YtohdjhdkmdhhcaaE14
set_option linter.unusedSimpArgs false
set_option linter.unusedVariables false
set_option linter.unusedSimpArgs false
set_option linter.unusedVariables false
namespace Go.Proofs.Ytohdjhdkmdhhcaa
open Go.RowKit
set_option maxRecDepth 100000

theorem queues_ok (q : List IT) (A : Option Addr) (c : Nat) (w : World) (hr : Rd w A (its q)) (hc : q.length ≤ c) (hf : fewT q = true) (he : (queE q).2 = 0) :
    Calls Try.prog 3 #[.slice A q.length c] w fun r w' => r = .returned (.bool true) ∧ Below w.heap.size w w' := by
  obtain ⟨hl, hnm⟩ := fewT_ok hf
  have hnm' : ∀ k (h : k < q.length), q[k].1.size ≤ 1000 := fun k h => by have := hnm k h; omega
  have hm : q.length ≤ maxLen := by unfold maxLen; omega
  have HFEW := hide (fun W (h : Rd W A (its q)) => fewItems_c q A c W h hm)
  rw [hf] at HFEW
  have HCP := hide (fun W (h : Rd W A (its q)) => copyItems_c q A c W h (by omega))
  have HCQ := hide (fun A' c' W (h : Rd W A' (its q)) (h2 : q.length ≤ c') => checkQueue_c q A' c' W h (by omega) h2 hnm')
  have HRQ := hide (fun W (h : Rd W A (its q)) => refCheckQueue_c q A c W h (by omega) hc hnm')
  have HOO := hide (fun A' c' W (h : Rd W A' (its q)) (h2 : q.length ≤ c') => stOrderOf_ok q A' c' W h (queE_len he) h2 hnm' he)
  have HRO := hide (fun W (h : Rd W A (its q)) => refOrderOf_c q A c W h (by omega))
  have HIN := hide (fun A' c' B d W (h : Rd W A' (ints (ordI q))) (h2 : Rd W B (ints (ordI q))) => ints_c (ordI q) (ordI q) A' B c' d W h h2 (by rw [ordI_len]; omega))
  rw [ordI_len, decide_eq_true rfl] at HIN
  rw [he] at HCQ HRQ
  generalize (queE q).1 = i at HCQ HRQ
  have hii : (i != i) = false := by simp
  clear hf he hl hnm hnm' hm hc
  go_enter Try.func3, Try.ntmps3
  have hA1 := Below.refl w.heap.size w
  go_upto_region 5 with (first
    | (go_at_call 7; refine (awake_c _).mono ?_; rintro e_ w1 ⟨rfl, hb1⟩)
    | (go_at_call 8; refine (HFEW.out _ (hr.bel hb1)).mono ?_; rintro e_ w_ ⟨rfl, rfl⟩))
  have hB1 : Below w.heap.size w w1 := hb1
  have hr1 := hr.bel hb1
  go_upto_region 6 with (first
    | (go_at_call 10; refine (HCP.out _ hr1).mono ?_; rintro e_ w2 ⟨⟨A2, c2, rfl, hx2, hc2⟩, hb2⟩)
    | (go_at_call 9; refine (HCQ.out _ _ _ hx2 hc2).mono ?_; rintro e_ w3 ⟨rfl, hb3⟩))
  have hB3 : Below w.heap.size w w3 := bel_tr (bel_tr hB1 hB1.size hb2) (by have := hB1.size; have := hb2.size; omega) hb3
  have hr3 := (hr1.bel hb2).bel hb3
  clear hx2 hc2 hb2 hb3 hr1 hB1 hb1
  go_upto_region 7 with (first
    | (go_at_call 10; refine (HCP.out _ hr3).mono ?_; rintro e_ w4 ⟨⟨A4, c4, rfl, hx4, hc4⟩, hb4⟩)
    | (go_at_call 11; refine (HOO.out _ _ _ hx4 hc4).mono ?_; rintro e_ w5 ⟨⟨A5, c5, rfl, hx5⟩, hb5⟩))
  have hB5 : Below w.heap.size w w5 := bel_tr (bel_tr hB3 hB3.size hb4) (by have := hB3.size; have := hb4.size; omega) hb5
  have hr5 := (hr3.bel hb4).bel hb5
  clear hx4 hc4 hb4 hb5 hr3 hB3
  go_upto_region 12 with (first
    | (go_at_call 12; refine (HRQ.out _ hr5).mono ?_; rintro e_ w6 ⟨rfl, hb6⟩))
  have hB6 : Below w.heap.size w w6 := bel_tr hB5 hB5.size hb6
  have hr6 := hr5.bel hb6
  have hx6 := hx5.bel hb6
  clear hx5 hr5 hB5 hb6
  go_wp2_with (first
    | (go_at_call 14; refine (HRO.out _ hr6).mono ?_; rintro e_ w7 ⟨⟨A7, c7, rfl, hx7, _⟩, hb7⟩)
    | (go_at_call 13; refine (HIN.out _ _ _ _ _ (hx6.bel hb7) hx7).mono ?_; rintro e_ w8 ⟨rfl, hb8⟩))
  go_ret
  exact ⟨rfl, bel_tr (bel_tr hB6 hB6.size hb7) (by have := hB6.size; have := hb7.size; omega) hb8⟩
theorem queues_bad (q : List IT) (A : Option Addr) (c : Nat) (w : World) (hr : Rd w A (its q)) (hc : q.length ≤ c) (hf : fewT q = true) (he : (queE q).2 ≠ 0) :
    Calls Try.prog 3 #[.slice A q.length c] w fun r w' => r = .returned (.bool true) ∧ Below w.heap.size w w' := by
  obtain ⟨hl, hnm⟩ := fewT_ok hf
  have hnm' : ∀ k (h : k < q.length), q[k].1.size ≤ 1000 := fun k h => by have := hnm k h; omega
  have hm : q.length ≤ maxLen := by unfold maxLen; omega
  have HFEW := hide (fun W (h : Rd W A (its q)) => fewItems_c q A c W h hm)
  rw [hf] at HFEW
  have HCP := hide (fun W (h : Rd W A (its q)) => copyItems_c q A c W h (by omega))
  have HCQ := hide (fun A' c' W (h : Rd W A' (its q)) (h2 : q.length ≤ c') => checkQueue_c q A' c' W h (by omega) h2 hnm')
  have HRQ := hide (fun W (h : Rd W A (its q)) => refCheckQueue_c q A c W h (by omega) hc hnm')
  have HOO := hide (fun A' c' W (h : Rd W A' (its q)) (h2 : q.length ≤ c') => stOrderOf_bad q A' c' W h (by omega) h2 hnm' he)
  generalize (queE q).1 = i at HCQ HRQ
  generalize (queE q).2 = e at HCQ HRQ HOO he
  have hii : (i != i) = false := by simp
  have hee : (e != e) = false := by simp
  have hee2 : (e == e) = true := by simp
  have he1 : (e != 0) = true := by simpa using he
  clear hf he hl hnm hnm' hm hc
  go_enter Try.func3, Try.ntmps3
  have hA1 := Below.refl w.heap.size w
  go_upto_region 5 with (first
    | (go_at_call 7; refine (awake_c _).mono ?_; rintro e_ w1 ⟨rfl, hb1⟩)
    | (go_at_call 8; refine (HFEW.out _ (hr.bel hb1)).mono ?_; rintro e_ w_ ⟨rfl, rfl⟩))
  have hB1 : Below w.heap.size w w1 := hb1
  have hr1 := hr.bel hb1
  go_upto_region 6 with (first
    | (go_at_call 10; refine (HCP.out _ hr1).mono ?_; rintro e_ w2 ⟨⟨A2, c2, rfl, hx2, hc2⟩, hb2⟩)
    | (go_at_call 9; refine (HCQ.out _ _ _ hx2 hc2).mono ?_; rintro e_ w3 ⟨rfl, hb3⟩))
  have hB3 : Below w.heap.size w w3 := bel_tr (bel_tr hB1 hB1.size hb2) (by have := hB1.size; have := hb2.size; omega) hb3
  have hr3 := (hr1.bel hb2).bel hb3
  clear hx2 hc2 hb2 hb3 hr1 hB1 hb1
  go_upto_region 7 with (first
    | (go_at_call 10; refine (HCP.out _ hr3).mono ?_; rintro e_ w4 ⟨⟨A4, c4, rfl, hx4, hc4⟩, hb4⟩)
    | (go_at_call 11; refine (HOO.out _ _ _ hx4 hc4).mono ?_; rintro e_ w5 ⟨rfl, hb5⟩))
  have hB5 : Below w.heap.size w w5 := bel_tr (bel_tr hB3 hB3.size hb4) (by have := hB3.size; have := hb4.size; omega) hb5
  have hr5 := (hr3.bel hb4).bel hb5
  clear hx4 hc4 hb4 hb5 hr3 hB3
  go_wp2_with (first
    | (go_at_call 12; refine (HRQ.out _ hr5).mono ?_; rintro e_ w6 ⟨rfl, hb6⟩))
  go_ret
  exact ⟨rfl, bel_tr hB5 hB5.size hb6⟩
theorem queuesLaw_c (A : Option Addr) (c : Nat) (q : List IT) (w : World) (hr : Rd w A (its q)) (hc : q.length ≤ c) (hm : q.length ≤ maxLen) :
    Calls Try.prog 3 #[.slice A q.length c] w fun r w' => r = .returned (.bool true) ∧ Below w.heap.size w w' := by
  by_cases hf : fewT q = true
  · by_cases he : (queE q).2 = 0
    · exact queues_ok q A c w hr hc hf he
    · exact queues_bad q A c w hr hc hf he
  · have hf := eq_false_of_ne_true hf
    have HFEW := hide (fun W (h : Rd W A (its q)) => fewItems_c q A c W h hm)
    rw [hf] at HFEW
    clear hf hm hc
    go_enter Try.func3, Try.ntmps3
    go_wp2_with (first
      | (go_at_call 7; refine (awake_c _).mono ?_; rintro e_ w1 ⟨rfl, hb1⟩)
      | (go_at_call 8; refine (HFEW.out _ (hr.bel hb1)).mono ?_; rintro e_ w_ ⟨rfl, rfl⟩))
    go_ret
    exact ⟨rfl, hb1⟩
end Go.Proofs.Ytohdjhdkmdhhcaa
