/- Law: two ways to laminate. -/
import Derived.Test.YtgnhkjfdicdcmaaK8a
import Derived.Test.YtgnhkjfdicdcmaaK8b
import Derived.Test.YtgnhkjfdicdcmaaK8c
namespace Go.Proofs.Ytgnhkjfdicdcmaa
open Go.RowKit
set_option maxRecDepth 100000

set_option maxHeartbeats 20000000 in
theorem twoWays_c (A : Option Addr) (c : Nat) (after width cut up : Int) (l : List PT) (w : World) (hr : Rd w A (ps l)) (hmx : l.length ≤ maxLen) (hc1 : -9223372036854775808 ≤ cut) (hc2 : cut ≤ 9223372036854775807) (hu1 : -9223372036854775808 ≤ up) (hu2 : up ≤ 9223372036854775807) :
    Calls Try.prog 14 #[.agg #[.slice A l.length c, .int .i64 after, .int .i64 width], .int .i64 cut, .int .i64 up] w fun r w' => r = .returned (.bool true) ∧ Below w.heap.size w w' := by
  by_cases h8 : l.length ≤ 8
  · by_cases h1 : (trE l after width).2 = 0
    · have hn0 := (trE_zero h1).n0
      have hm0 := Int.emod_nonneg cut (show (l.length : Int) ≠ 0 by omega)
      obtain ⟨nn, hnn⟩ : ∃ nn : Nat, 1 + cut % (l.length : Int) = nn := ⟨(1 + cut % (l.length : Int)).toNat, by omega⟩
      by_cases gp : (lam l after width (nn - 1)).2 = 0
      · by_cases gl : (lam l after width (l.length - 1)).2 = 0
        · exact twoWaysA_c A c after width cut up l w hr hc1 hc2 hu1 hu2 h8 h1 nn hnn gp gl
        · exact twoWaysB_c A c after width cut up l w hr hc1 hc2 hu1 hu2 h8 h1 nn hnn gp gl
      · exact twoWaysC_c A c after width cut up l w hr hc1 hc2 hu1 hu2 h8 h1 nn hnn gp
    · have e0 := 0
      obtain ⟨W0, hW0⟩ : ∃ W0, w.alloc (.cells #[.slice A l.length c, .int .i64 after, .int .i64 width] 73) = W0 := ⟨_, rfl⟩
      obtain ⟨p, hp⟩ : ∃ p, w.heap.size = p := ⟨_, rfl⟩
      have hX0 : Blk W0 p 73 [.slice A l.length c, .int .i64 after, .int .i64 width] := by rw [← hW0, ← hp]; exact Blk.new w _ [_, _, _]
      have HB0 : Below p w W0 := by rw [← hW0, ← hp]; exact alloc_bel w _
      have hr0 := hr.bel (by rw [hp]; exact HB0)
      have HW := hide hW0
      clear hW0
      have c0 := hX0.cell 0; have c1 := hX0.cell 1; have c2 := hX0.cell 2; simp only [List.getElem?_cons_zero, List.getElem?_cons_succ] at c0 c1 c2
      have z0 := hX0.lt
      have e8 : decide (8 < (l.length : Int)) = false := decide_eq_false (by omega)
      have hl : l.length ≤ 1000 := by omega
      have HTE := hide (fun W h => refTraceErr_c A c after width l W h hl)
      clear hmx
      have e1 : ((trE l after width).2 != 0) = true := by simpa using h1
      clear h1
      generalize (trE l after width).2 = E at HTE e1
      go_enter Try.func14, Try.ntmps14
      go_upto_region 1 with fail
      rw [HW.out]
      go_wp2_with (first
        | (go_at_call 66; refine (profileAwake_c _).mono ?_; rintro e w1 ⟨rfl, hb1⟩; have hX1 := hX0.bel hb1; have hr1 := hr0.bel hb1; have HB1 := bel_tr HB0 (by omega) hb1; have d0 := hX1.cell 0; have d1 := hX1.cell 1; have d2 := hX1.cell 2; simp only [List.getElem?_cons_zero, List.getElem?_cons_succ] at d0 d1 d2; have zd := hX1.lt)
        | (go_at_call 60; refine (HTE.out _ hr1).mono ?_; rintro e w2 ⟨rfl, hb2⟩))
      go_ret
      exact ⟨rfl, by rw [hp]; exact bel_tr HB1 (by have := HB1.size; omega) hb2⟩
  · have e0 := 0
    obtain ⟨W0, hW0⟩ : ∃ W0, w.alloc (.cells #[.slice A l.length c, .int .i64 after, .int .i64 width] 73) = W0 := ⟨_, rfl⟩
    obtain ⟨p, hp⟩ : ∃ p, w.heap.size = p := ⟨_, rfl⟩
    have hX0 : Blk W0 p 73 [.slice A l.length c, .int .i64 after, .int .i64 width] := by rw [← hW0, ← hp]; exact Blk.new w _ [_, _, _]
    have HB0 : Below p w W0 := by rw [← hW0, ← hp]; exact alloc_bel w _
    have hr0 := hr.bel (by rw [hp]; exact HB0)
    have HW := hide hW0
    clear hW0
    have c0 := hX0.cell 0; have c1 := hX0.cell 1; have c2 := hX0.cell 2; simp only [List.getElem?_cons_zero, List.getElem?_cons_succ] at c0 c1 c2
    have z0 := hX0.lt
    have h63 : l.length ≤ 9223372036854775807 := hmx
    have e8 : decide (8 < (l.length : Int)) = true := decide_eq_true (by omega)
    clear hmx
    go_enter Try.func14, Try.ntmps14
    go_upto_region 1 with fail
    rw [HW.out]
    go_wp2_with (first
      | (go_at_call 66; refine (profileAwake_c _).mono ?_; rintro e w1 ⟨rfl, hb1⟩; have hX1 := hX0.bel hb1; have d0 := hX1.cell 0; have d1 := hX1.cell 1; have d2 := hX1.cell 2; simp only [List.getElem?_cons_zero, List.getElem?_cons_succ] at d0 d1 d2; have zd := hX1.lt))
    go_ret
    exact ⟨rfl, by rw [hp]; exact bel_tr HB0 (by omega) hb1⟩
end Go.Proofs.Ytgnhkjfdicdcmaa
