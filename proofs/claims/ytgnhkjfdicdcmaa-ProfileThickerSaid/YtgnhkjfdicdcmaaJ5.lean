/- Law: shapes of profiles. -/
import Derived.Test.YtgnhkjfdicdcmaaH3
import Derived.Test.YtgnhkjfdicdcmaaJ2b
import Derived.Test.YtgnhkjfdicdcmaaJ4
namespace Go.Proofs.Ytgnhkjfdicdcmaa
open Go.RowKit
set_option maxRecDepth 100000


set_option maxHeartbeats 4000000 in
theorem shapesLaw_c (base : Int) (A : Option Addr) (c : Nat) (l : List G) (w : World) (hr : Rd w A (gs l)) (hmx : l.length ≤ maxLen) :
    Calls Try.prog 4 #[.agg #[.int .i64 base, .slice A l.length c]] w fun r w' => r = .returned (.bool true) ∧ Below w.heap.size w w' := by
  obtain ⟨W0, hW0⟩ : ∃ W0, w.alloc (.cells #[.int .i64 base, .slice A l.length c] 24) = W0 := ⟨_, rfl⟩
  have hX0 : Blk W0 w.heap.size 24 [.int .i64 base, .slice A l.length c] := by rw [← hW0]; exact Blk.new w _ [_, _]
  have hB0 : Below w.heap.size w W0 := by rw [← hW0]; exact alloc_bel w _
  have hr0 := hr.bel hB0
  have HW := hide hW0
  clear hW0 hr
  have c0 := hX0.cell 0; have c1 := hX0.cell 1; simp only [List.getElem?_cons_zero, List.getElem?_cons_succ] at c0 c1
  have z0 := hX0.lt
  have HFew := hide (fun W => few_c base A c l W hmx)
  by_cases h14 : l.length ≤ 14
  · rw [decide_eq_true h14] at HFew
    have hl : l.length ≤ 1000 := by omega
    clear hmx
    have HRI := hide (fun A c W h hc => isRising_c base A c l W h hl hc)
    have HRE := hide (fun W h => refErr_c base A c l W h hl)
    by_cases h1 : (proE base l).2 = 0
    · have hP := proE_zero h1
      have HLO := hide (fun A c W h => layersOf_ok base A c l W h hP)
      have HJO := hide (fun A c W h => joined_ok base A c l W h hP)
      have HRL := hide (fun W h => refLayers_c base A c l W h hl)
      have HRJ := hide (fun W h => refJoined_c base A c l W h hP)
      have HRR := hide (fun W h => refIsRising_c base A c l W h hl hP.n0)
      have hjl : (joined l).length ≤ 1000 := by have := (joined_len hP.n0).2; omega
      have hll : (layR l l.length).length ≤ 1000 := by have := layR_length l l.length; omega
      have HSA := hide (fun A B c d W h h' => same_eq base A B c d (joined l) W h h' hjl)
      have HIN := hide (fun A B c d W h h' => ints_c (layR l l.length) (layR l l.length) A B c d W h h' hll)
      rw [decide_eq_true rfl] at HIN
      rw [h1] at HRE
      rw [show risV base l = (risN l (l.length - 1), 0) by unfold risV; rw [if_pos h1]] at HRI
      dsimp only at HRI
      clear h1 hP h14 hjl hll
      generalize layR l l.length = L at HLO HRL HIN
      generalize joined l = J at HJO HRJ HSA
      generalize risN l (l.length - 1) = R at HRI HRR
      go_enter Try.func4, Try.ntmps4
      go_upto_region 1 with fail
      rw [HW.out]
      go_upto_region 5 with (first
        | (go_at_call 15; refine (awake_c _).mono ?_; rintro e w1 ⟨rfl, hb1⟩; have hX1 := hX0.bel hb1; have k0 := hX1.cell 0; have k1 := hX1.cell 1; simp only [List.getElem?_cons_zero, List.getElem?_cons_succ] at k0 k1; have zk := hX1.lt)
        | (go_at_call 16; refine (HFew.out _).mono ?_; rintro e w2 ⟨rfl, hb2⟩))
      have hB2 := tr hb1 hb2 hb1.size
      have hX2 := hX1.bel hb2
      have hr2 := hr0.bel hB2
      clear c0 c1 z0 k0 k1 zk hX1 hb1 hb2 hX0 hr0
      have d0 := hX2.cell 0; have d1 := hX2.cell 1; simp only [List.getElem?_cons_zero, List.getElem?_cons_succ] at d0 d1
      have zd := hX2.lt
      go_upto_region 6 with (first
        | (go_at_call 18; refine (copyCap_c base A c l _ hr2 hl).mono ?_; rintro e wa3 ⟨⟨Aa3, qa3, rfl, hra3, hca3⟩, hba3⟩)
        | (go_at_call 27; refine (HLO.out Aa3 qa3 _ hra3).mono ?_; rintro e w3 ⟨⟨LA, lq, rfl, hL3⟩, hb3⟩))
      have hbb3 := tr hba3 hb3 hba3.size
      have hX3 := hX2.bel hbb3
      have hr3 := hr2.bel hbb3
      have hB3 := tr hB2 hbb3 hB2.size
      clear d0 d1 zd hX2 hr2 hba3 hB2
      have d0 := hX3.cell 0; have d1 := hX3.cell 1; simp only [List.getElem?_cons_zero, List.getElem?_cons_succ] at d0 d1
      have zd := hX3.lt
      go_upto_region 7 with (first
        | (go_at_call 18; refine (copyCap_c base A c l _ hr3 hl).mono ?_; rintro e wa4 ⟨⟨Aa4, qa4, rfl, hra4, hca4⟩, hba4⟩)
        | (go_at_call 28; refine (HJO.out Aa4 qa4 _ hra4).mono ?_; rintro e w4 ⟨⟨JA, jq, rfl, hJ4⟩, hb4⟩))
      have hbb4 := tr hba4 hb4 hba4.size
      have hX4 := hX3.bel hbb4
      have hr4 := hr3.bel hbb4
      have hB4 := tr hB3 hbb4 hB3.size
      clear d0 d1 zd hX3 hr3 hba4 hB3
      have d0 := hX4.cell 0; have d1 := hX4.cell 1; simp only [List.getElem?_cons_zero, List.getElem?_cons_succ] at d0 d1
      have zd := hX4.lt
      obtain ⟨W5, hW5⟩ : ∃ W5, w4.alloc (.cells #[.int .i64 base, .slice JA J.length jq] 24) = W5 := ⟨_, rfl⟩
      have hb5 : Below w4.heap.size w4 W5 := by rw [← hW5]; exact alloc_bel _ _
      have hQ5 : Blk W5 w4.heap.size 24 [.int .i64 base, .slice JA J.length jq] := by rw [← hW5]; exact Blk.new w4 _ [_, _]
      have hX5 := hX4.bel hb5
      have hr5 := hr4.bel hb5
      have hB5 := tr hB4 hb5 hB4.size
      rw [hW5]
      clear hW5 d0 d1 zd hX4 hr4 hB4
      have d0 := hX5.cell 0; have d1 := hX5.cell 1; simp only [List.getElem?_cons_zero, List.getElem?_cons_succ] at d0 d1
      have zd := hX5.lt
      go_upto_region 8 with (first
        | (go_at_call 18; refine (copyCap_c base A c l _ hr5 hl).mono ?_; rintro e wa6 ⟨⟨Aa6, qa6, rfl, hra6, hca6⟩, hba6⟩)
        | (go_at_call 29; refine (HRI.out Aa6 qa6 _ hra6 hca6).mono ?_; rintro e w6 ⟨rfl, hb6⟩))
      have hbb6 := tr hba6 hb6 hba6.size
      have hX6 := hX5.bel hbb6
      have hr6 := hr5.bel hbb6
      have hB6 := tr hB5 hbb6 hB5.size
      clear d0 d1 zd hX5 hr5 hba6 hB5
      have d0 := hX6.cell 0; have d1 := hX6.cell 1; simp only [List.getElem?_cons_zero, List.getElem?_cons_succ] at d0 d1
      have zd := hX6.lt
      go_upto_region 9 with (first | (go_at_call 30; refine (HRE.out _ hr6).mono ?_; rintro e w7 ⟨rfl, hb7⟩))
      have hX7 := hX6.bel hb7
      have hr7 := hr6.bel hb7
      have hB7 := tr hB6 hb7 hB6.size
      have hQ7 := (hQ5.bel hbb6).bel hb7
      have hJ7 := ((hJ4.bel hb5).bel hbb6).bel hb7
      have hL7 := (((hL3.bel hbb4).bel hb5).bel hbb6).bel hb7
      clear d0 d1 zd hX6 hr6 hB6 hQ5 hJ4 hL3 hb3 hb4 hbb3 hbb4 hb5 hb6 hbb6 hb7 hra3 hra4 hra6 hca3 hca4 hca6
      have d0 := hX7.cell 0; have d1 := hX7.cell 1; simp only [List.getElem?_cons_zero, List.getElem?_cons_succ] at d0 d1
      have q0 := hQ7.cell 0; have q1 := hQ7.cell 1; simp only [List.getElem?_cons_zero, List.getElem?_cons_succ] at q0 q1
      have zd := hX7.lt
      have zq := hQ7.lt
      have eR : (R == R) = true := by simp
      go_upto_region 11 with fail
      go_cut [2] from 64 to 91 (fun t wx => t = .bool true ∧ Below w7.heap.size w7 wx)
      case first =>
        go_region_held3 (fun w' => (∀ b o, b < w7.heap.size → w'.cell? ⟨b, o, none⟩ = w7.cell? ⟨b, o, none⟩) ∧ Below w7.heap.size w7 w')
          ((refine kp ?_; (repeat' (first | with_reducible exact Below.refl _ _ | with_reducible exact HB5.out | with_reducible exact HB4.out | with_reducible exact HB3.out | with_reducible exact HB2.out | with_reducible exact HB1.out | with_reducible refine Below.drew ?_ | with_reducible refine bel_alloc ?_ ?_ _)); all_goals (first | omega | (simp <;> omega))))
          (first
            | (go_at_call 33; with_reducible refine (HRL.out _ ?_).mono ?_; exact hr7.bel (by (repeat' (first | with_reducible exact Below.refl _ _ | with_reducible exact HB5.out | with_reducible exact HB4.out | with_reducible exact HB3.out | with_reducible exact HB2.out | with_reducible exact HB1.out | with_reducible refine Below.drew ?_ | with_reducible refine bel_alloc ?_ ?_ _)); all_goals (first | omega | (simp <;> omega))); rintro e wA ⟨⟨A1, q1, rfl, hA1⟩, hbA⟩; have HB1 : Hid (Below w7.heap.size w7 wA) := (by refine hide (Below.trans ?_ (hbA.mono ?_)); (repeat' (first | with_reducible exact Below.refl _ _ | with_reducible exact HB5.out | with_reducible exact HB4.out | with_reducible exact HB3.out | with_reducible exact HB2.out | with_reducible exact HB1.out | with_reducible refine Below.drew ?_ | with_reducible refine bel_alloc ?_ ?_ _)); all_goals (first | omega | (simp <;> omega))); have s1 := HB1.out.size)
            | (go_at_call 32; with_reducible refine (HIN.out _ _ _ _ _ ?_ ?_).mono ?_; exact hL7.bel (by (repeat' (first | with_reducible exact Below.refl _ _ | with_reducible exact HB5.out | with_reducible exact HB4.out | with_reducible exact HB3.out | with_reducible exact HB2.out | with_reducible exact HB1.out | with_reducible refine Below.drew ?_ | with_reducible refine bel_alloc ?_ ?_ _)); all_goals (first | omega | (simp <;> omega))); exact hA1; rintro e wB ⟨rfl, hbB⟩; have HB2 : Hid (Below w7.heap.size w7 wB) := (by refine hide (Below.trans ?_ (hbB.mono ?_)); (repeat' (first | with_reducible exact Below.refl _ _ | with_reducible exact HB5.out | with_reducible exact HB4.out | with_reducible exact HB3.out | with_reducible exact HB2.out | with_reducible exact HB1.out | with_reducible refine Below.drew ?_ | with_reducible refine bel_alloc ?_ ?_ _)); all_goals (first | omega | (simp <;> omega))); have s2 := HB2.out.size)
            | (go_at_call 34; with_reducible refine (HRJ.out _ ?_).mono ?_; exact hr7.bel (by (repeat' (first | with_reducible exact Below.refl _ _ | with_reducible exact HB5.out | with_reducible exact HB4.out | with_reducible exact HB3.out | with_reducible exact HB2.out | with_reducible exact HB1.out | with_reducible refine Below.drew ?_ | with_reducible refine bel_alloc ?_ ?_ _)); all_goals (first | omega | (simp <;> omega))); rintro e wC ⟨⟨A2, q2, rfl, hA2⟩, hbC⟩; have HB3 : Hid (Below w7.heap.size w7 wC) := (by refine hide (Below.trans ?_ (hbC.mono ?_)); (repeat' (first | with_reducible exact Below.refl _ _ | with_reducible exact HB5.out | with_reducible exact HB4.out | with_reducible exact HB3.out | with_reducible exact HB2.out | with_reducible exact HB1.out | with_reducible refine Below.drew ?_ | with_reducible refine bel_alloc ?_ ?_ _)); all_goals (first | omega | (simp <;> omega))); have s3 := HB3.out.size)
            | (go_at_call 31; with_reducible refine (HSA.out _ _ _ _ _ ?_ ?_).mono ?_; exact hJ7.bel (by (repeat' (first | with_reducible exact Below.refl _ _ | with_reducible exact HB5.out | with_reducible exact HB4.out | with_reducible exact HB3.out | with_reducible exact HB2.out | with_reducible exact HB1.out | with_reducible refine Below.drew ?_ | with_reducible refine bel_alloc ?_ ?_ _)); all_goals (first | omega | (simp <;> omega))); exact hA2; rintro e wD ⟨rfl, hbD⟩; have HB4 : Hid (Below w7.heap.size w7 wD) := (by refine hide (Below.trans ?_ (hbD.mono ?_)); (repeat' (first | with_reducible exact Below.refl _ _ | with_reducible exact HB5.out | with_reducible exact HB4.out | with_reducible exact HB3.out | with_reducible exact HB2.out | with_reducible exact HB1.out | with_reducible refine Below.drew ?_ | with_reducible refine bel_alloc ?_ ?_ _)); all_goals (first | omega | (simp <;> omega))); have s4 := HB4.out.size)
            | (go_at_call 35; with_reducible refine (HRR.out _ ?_).mono ?_; exact hr7.bel (by (repeat' (first | with_reducible exact Below.refl _ _ | with_reducible exact HB5.out | with_reducible exact HB4.out | with_reducible exact HB3.out | with_reducible exact HB2.out | with_reducible exact HB1.out | with_reducible refine Below.drew ?_ | with_reducible refine bel_alloc ?_ ?_ _)); all_goals (first | omega | (simp <;> omega))); rintro e wE ⟨rfl, hbE⟩; have HB5 : Hid (Below w7.heap.size w7 wE) := (by refine hide (Below.trans ?_ (hbE.mono ?_)); (repeat' (first | with_reducible exact Below.refl _ _ | with_reducible exact HB5.out | with_reducible exact HB4.out | with_reducible exact HB3.out | with_reducible exact HB2.out | with_reducible exact HB1.out | with_reducible refine Below.drew ?_ | with_reducible refine bel_alloc ?_ ?_ _)); all_goals (first | omega | (simp <;> omega))); have s5 := HB5.out.size))
        all_goals (
          go_wp2
          go_meet
          exact ⟨rfl, HB5.out⟩)
      obtain ⟨rfl, hbw⟩ := hcut
      go_wp2
      go_ret
      exact ⟨rfl, tr hB0 (tr hB7 hbw hB7.size) hB0.size⟩
    · have HLO := hide (fun A c W h => layersOf_bad base A c l W h hl h1)
      have HJO := hide (fun A c W h => joined_bad base A c l W h hl h1)
      have HSZ := hide (fun W => same_eq 0 none none 0 0 [] W (Rd.nil _ _) (Rd.nil _ _) (by simp))
      rw [show risV base l = (false, (proE base l).2) by unfold risV; rw [if_neg h1]] at HRI
      have e1 : ((proE base l).2 != 0) = true := by simpa using h1
      clear h1 h14
      generalize (proE base l).2 = E at HLO HJO HRI HRE e1
      dsimp only at HRI
      go_enter Try.func4, Try.ntmps4
      go_upto_region 1 with fail
      rw [HW.out]
      go_upto_region 5 with (first
        | (go_at_call 15; refine (awake_c _).mono ?_; rintro e w1 ⟨rfl, hb1⟩; have hX1 := hX0.bel hb1; have k0 := hX1.cell 0; have k1 := hX1.cell 1; simp only [List.getElem?_cons_zero, List.getElem?_cons_succ] at k0 k1; have zk := hX1.lt)
        | (go_at_call 16; refine (HFew.out _).mono ?_; rintro e w2 ⟨rfl, hb2⟩))
      have hB2 := tr hb1 hb2 hb1.size
      have hX2 := hX1.bel hb2
      have hr2 := hr0.bel hB2
      clear c0 c1 z0 k0 k1 zk hX1 hb1 hb2 hX0 hr0
      have d0 := hX2.cell 0; have d1 := hX2.cell 1; simp only [List.getElem?_cons_zero, List.getElem?_cons_succ] at d0 d1
      have zd := hX2.lt
      go_upto_region 6 with (first
        | (go_at_call 18; refine (copyCap_c base A c l _ hr2 hl).mono ?_; rintro e wa3 ⟨⟨Aa3, qa3, rfl, hra3, hca3⟩, hba3⟩)
        | (go_at_call 27; refine (HLO.out Aa3 qa3 _ hra3).mono ?_; rintro e w3 ⟨rfl, hb3⟩))
      have hbb3 := tr hba3 hb3 hba3.size
      have hX3 := hX2.bel hbb3
      have hr3 := hr2.bel hbb3
      have hB3 := tr hB2 hbb3 hB2.size
      clear d0 d1 zd hX2 hr2 hba3 hB2
      have d0 := hX3.cell 0; have d1 := hX3.cell 1; simp only [List.getElem?_cons_zero, List.getElem?_cons_succ] at d0 d1
      have zd := hX3.lt
      go_upto_region 7 with (first
        | (go_at_call 18; refine (copyCap_c base A c l _ hr3 hl).mono ?_; rintro e wa4 ⟨⟨Aa4, qa4, rfl, hra4, hca4⟩, hba4⟩)
        | (go_at_call 28; refine (HJO.out Aa4 qa4 _ hra4).mono ?_; rintro e w4 ⟨rfl, hb4⟩))
      have hbb4 := tr hba4 hb4 hba4.size
      have hX4 := hX3.bel hbb4
      have hr4 := hr3.bel hbb4
      have hB4 := tr hB3 hbb4 hB3.size
      clear d0 d1 zd hX3 hr3 hba4 hB3
      have d0 := hX4.cell 0; have d1 := hX4.cell 1; simp only [List.getElem?_cons_zero, List.getElem?_cons_succ] at d0 d1
      have zd := hX4.lt
      obtain ⟨W5, hW5⟩ : ∃ W5, w4.alloc (.cells #[.int .i64 0, .slice none 0 0] 24) = W5 := ⟨_, rfl⟩
      have hb5 : Below w4.heap.size w4 W5 := by rw [← hW5]; exact alloc_bel _ _
      have hQ5 : Blk W5 w4.heap.size 24 [.int .i64 0, .slice none 0 0] := by rw [← hW5]; exact Blk.new w4 _ [_, _]
      have hX5 := hX4.bel hb5
      have hr5 := hr4.bel hb5
      have hB5 := tr hB4 hb5 hB4.size
      rw [hW5]
      clear hW5 d0 d1 zd hX4 hr4 hB4
      have d0 := hX5.cell 0; have d1 := hX5.cell 1; simp only [List.getElem?_cons_zero, List.getElem?_cons_succ] at d0 d1
      have zd := hX5.lt
      go_upto_region 8 with (first
        | (go_at_call 18; refine (copyCap_c base A c l _ hr5 hl).mono ?_; rintro e wa6 ⟨⟨Aa6, qa6, rfl, hra6, hca6⟩, hba6⟩)
        | (go_at_call 29; refine (HRI.out Aa6 qa6 _ hra6 hca6).mono ?_; rintro e w6 ⟨rfl, hb6⟩))
      have hbb6 := tr hba6 hb6 hba6.size
      have hX6 := hX5.bel hbb6
      have hr6 := hr5.bel hbb6
      have hB6 := tr hB5 hbb6 hB5.size
      clear d0 d1 zd hX5 hr5 hba6 hB5
      have d0 := hX6.cell 0; have d1 := hX6.cell 1; simp only [List.getElem?_cons_zero, List.getElem?_cons_succ] at d0 d1
      have zd := hX6.lt
      go_upto_region 9 with (first | (go_at_call 30; refine (HRE.out _ hr6).mono ?_; rintro e w7 ⟨rfl, hb7⟩))
      have hB7 := tr hB6 hb7 hB6.size
      have hQ7 := (hQ5.bel hbb6).bel hb7
      have q0 := hQ7.cell 0; have q1 := hQ7.cell 1; simp only [List.getElem?_cons_zero, List.getElem?_cons_succ] at q0 q1
      have zq := hQ7.lt
      go_wp2_with (first | (go_at_call 31; refine (HSZ.out _).mono ?_; rintro e w8 ⟨rfl, hb8⟩))
      go_ret
      exact ⟨rfl, tr hB0 (tr hB7 hb8 hB7.size) hB0.size⟩
  · rw [decide_eq_false h14] at HFew
    clear hmx h14
    go_enter Try.func4, Try.ntmps4
    go_upto_region 1 with fail
    rw [HW.out]
    go_wp2_with (first
      | (go_at_call 15; refine (awake_c _).mono ?_; rintro e w1 ⟨rfl, hb1⟩; have hX1 := hX0.bel hb1; have k0 := hX1.cell 0; have k1 := hX1.cell 1; simp only [List.getElem?_cons_zero, List.getElem?_cons_succ] at k0 k1; have zk := hX1.lt)
      | (go_at_call 16; refine (HFew.out _).mono ?_; rintro e w2 ⟨rfl, hb2⟩))
    go_ret
    exact ⟨rfl, tr hB0 (tr hb1 hb2 hb1.size) hB0.size⟩
end Go.Proofs.Ytgnhkjfdicdcmaa
