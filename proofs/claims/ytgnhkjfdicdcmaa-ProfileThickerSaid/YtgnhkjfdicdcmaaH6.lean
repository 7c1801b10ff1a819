/- Law: distances. -/
import Derived.Test.YtgnhkjfdicdcmaaH5
namespace Go.Proofs.Ytgnhkjfdicdcmaa
open Go.RowKit
set_option maxRecDepth 100000


set_option maxHeartbeats 4000000 in
theorem distances_c (a b : Int) (A B : Option Addr) (c d : Nat) (l m : List G) (w : World) (hr : Rd w A (gs l)) (hs : Rd w B (gs m)) (hlx : l.length ≤ maxLen) (hmx : m.length ≤ maxLen) :
    Calls Try.prog 5 #[.agg #[.int .i64 a, .slice A l.length c], .agg #[.int .i64 b, .slice B m.length d]] w fun r w' => r = .returned (.bool true) ∧ Below w.heap.size w w' := by
  have HF1 := hide (fun W => few_c a A c l W hlx)
  have HF2 := hide (fun W => few_c b B d m W hmx)
  obtain ⟨W0, hW0⟩ : ∃ W0, (w.alloc (.cells #[.int .i64 a, .slice A l.length c] 24)).alloc (.cells #[.int .i64 b, .slice B m.length d] 24) = W0 := ⟨_, rfl⟩
  obtain ⟨p, hp⟩ : ∃ p, w.heap.size = p := ⟨_, rfl⟩
  have hX0 : Blk W0 p 24 [.int .i64 a, .slice A l.length c] := by rw [← hW0, ← hp]; exact (two_new w _ _ [_, _] [_, _]).1
  have hY0 : Blk W0 (p + 1) 24 [.int .i64 b, .slice B m.length d] := by rw [← hW0, ← hp]; exact (two_new w _ _ [_, _] [_, _]).2.1
  have hB0 : Below p w W0 := by rw [← hW0, ← hp]; exact (two_new w _ _ [_, _] [_, _]).2.2
  have hr0 := hr.bel (by rw [hp]; exact hB0)
  have hs0 := hs.bel (by rw [hp]; exact hB0)
  have HW := hide hW0
  have zp := hY0.lt
  have zq := hX0.lt
  clear hW0 hr hs
  have c0 := hX0.cell 0; have c1 := hX0.cell 1; simp only [List.getElem?_cons_zero, List.getElem?_cons_succ] at c0 c1
  have y0 := hY0.cell 0; have y1 := hY0.cell 1; simp only [List.getElem?_cons_zero, List.getElem?_cons_succ] at y0 y1
  by_cases h14 : l.length ≤ 14
  · rw [decide_eq_true h14] at HF1
    have hl : l.length ≤ 1000 := by omega
    by_cases h15 : m.length ≤ 14
    · rw [decide_eq_true h15] at HF2
      have hm : m.length ≤ 1000 := by omega
      have HDO := hide (fun A c B d W h1 h2 => distanceOf_c a b A B c d l m W h1 h2 hl hm)
      have HE1 := hide (fun W h => refErr_c a A c l W h hl)
      have HE2 := hide (fun W h => refErr_c b B d m W h hm)
      have HD : Hid (disE a l b m = firstE [(proE a l).2, (proE b m).2]) := rfl
      have HR : Hid (disR a l b m = if disE a l b m = 0 then dist a l b m else 0) := rfl
      clear hlx hmx h14 h15
      go_enter Try.func5, Try.ntmps5
      go_upto_region 1 with fail
      rw [HW.out]
      go_upto_region 5 with (first
        | (go_at_call 15; refine (awake_c _).mono ?_; rintro e w1 ⟨rfl, hb1⟩; have hX1 := hX0.bel hb1; have hY1 := hY0.bel hb1; have k0 := hX1.cell 0; have k1 := hX1.cell 1; simp only [List.getElem?_cons_zero, List.getElem?_cons_succ] at k0 k1; have n0 := hY1.cell 0; have n1 := hY1.cell 1; simp only [List.getElem?_cons_zero, List.getElem?_cons_succ] at n0 n1; have zk := hX1.lt; have zn := hY1.lt)
        | (go_at_call 16; with_reducible refine (HF1.out _).mono ?_; rintro e w2 ⟨rfl, hb2⟩; have hX2 := hX1.bel hb2; have hY2 := hY1.bel hb2; have i0 := hX2.cell 0; have i1 := hX2.cell 1; simp only [List.getElem?_cons_zero, List.getElem?_cons_succ] at i0 i1; have j0 := hY2.cell 0; have j1 := hY2.cell 1; simp only [List.getElem?_cons_zero, List.getElem?_cons_succ] at j0 j1; have zi := hX2.lt; have zj := hY2.lt)
        | (go_at_call 16; with_reducible refine (HF2.out _).mono ?_; rintro e w3 ⟨rfl, hb3⟩))
      have hB3 := tr (tr hb1 hb2 hb1.size) hb3 (by have := hb1.size; have := hb2.size; omega)
      have hX3 := hX2.bel hb3
      have hY3 := hY2.bel hb3
      have hr3 := hr0.bel hB3
      have hs3 := hs0.bel hB3
      have hBw := bel_tr hB0 (by omega) hB3
      clear c0 c1 y0 y1 k0 k1 n0 n1 i0 i1 j0 j1 zk zn zi zj zp zq hX0 hY0 hX1 hY1 hX2 hY2 hr0 hs0 hb1 hb2 hb3 hB3
      have c0 := hX3.cell 0; have c1 := hX3.cell 1; simp only [List.getElem?_cons_zero, List.getElem?_cons_succ] at c0 c1
      have y0 := hY3.cell 0; have y1 := hY3.cell 1; simp only [List.getElem?_cons_zero, List.getElem?_cons_succ] at y0 y1
      have zp := hY3.lt
      have zq := hX3.lt
      go_cut [5, 6] from 18 to 25 (fun t u wx => t = .int .i64 (disR a l b m) ∧ u = .int .i64 (disE a l b m) ∧ Below w3.heap.size w3 wx)
      case first =>
        go_region_held3 (fun w' => (∀ b o, b < w3.heap.size → w'.cell? ⟨b, o, none⟩ = w3.cell? ⟨b, o, none⟩) ∧ Below w3.heap.size w3 w')
          ((refine kp ?_; (repeat' (first | with_reducible exact Below.refl _ _ | with_reducible exact HB3.out | with_reducible exact HB2.out | with_reducible exact HB1.out | with_reducible refine Below.drew ?_ | with_reducible refine bel_alloc ?_ ?_ _)); all_goals (first | omega | (simp <;> omega))))
          (first
            | (go_at_call 18; with_reducible refine (copy_c a A c l _ ?_ hl).mono ?_; exact hr3.bel (by (repeat' (first | with_reducible exact Below.refl _ _ | with_reducible exact HB3.out | with_reducible exact HB2.out | with_reducible exact HB1.out | with_reducible refine Below.drew ?_ | with_reducible refine bel_alloc ?_ ?_ _)); all_goals (first | omega | (simp <;> omega))); rintro e w4 ⟨⟨A4, q4, rfl, hra⟩, hb4⟩; have HB1 : Hid (Below w3.heap.size w3 w4) := (by refine hide (Below.trans ?_ (hb4.mono ?_)); (repeat' (first | with_reducible exact Below.refl _ _ | with_reducible exact HB3.out | with_reducible exact HB2.out | with_reducible exact HB1.out | with_reducible refine Below.drew ?_ | with_reducible refine bel_alloc ?_ ?_ _)); all_goals (first | omega | (simp <;> omega))); have s1 := HB1.out.size)
            | (go_at_call 18; with_reducible refine (copy_c b B d m _ ?_ hm).mono ?_; exact hs3.bel (by (repeat' (first | with_reducible exact Below.refl _ _ | with_reducible exact HB3.out | with_reducible exact HB2.out | with_reducible exact HB1.out | with_reducible refine Below.drew ?_ | with_reducible refine bel_alloc ?_ ?_ _)); all_goals (first | omega | (simp <;> omega))); rintro e w5 ⟨⟨A5, q5, rfl, hsa⟩, hb5⟩; have HB2 : Hid (Below w3.heap.size w3 w5) := (by refine hide (Below.trans ?_ (hb5.mono ?_)); (repeat' (first | with_reducible exact Below.refl _ _ | with_reducible exact HB3.out | with_reducible exact HB2.out | with_reducible exact HB1.out | with_reducible refine Below.drew ?_ | with_reducible refine bel_alloc ?_ ?_ _)); all_goals (first | omega | (simp <;> omega))); have s2 := HB2.out.size)
            | (go_at_call 36; refine (HDO.out A4 q4 A5 q5 _ (by first | exact hra | exact hra.bel hb5) (by first | exact hsa | exact hsa.bel hb4)).mono ?_; rintro e w6 ⟨rfl, hb6⟩; have HB3 : Hid (Below w3.heap.size w3 w6) := (by refine hide (Below.trans ?_ (hb6.mono ?_)); (repeat' (first | with_reducible exact Below.refl _ _ | with_reducible exact HB3.out | with_reducible exact HB2.out | with_reducible exact HB1.out | with_reducible refine Below.drew ?_ | with_reducible refine bel_alloc ?_ ?_ _)); all_goals (first | omega | (simp <;> omega))); have s3 := HB3.out.size))
        all_goals go_wp2
        all_goals go_meet
        all_goals exact ⟨rfl, rfl, HB3.out⟩
      obtain ⟨rfl, rfl, hBc⟩ := hcut
      have hXc := hX3.bel hBc
      have hYc := hY3.bel hBc
      have hrc := hr3.bel hBc
      have hsc := hs3.bel hBc
      have hBf := bel_tr hBw (by have := hBw.size; omega) hBc
      clear c0 c1 y0 y1 zp zq hX3 hY3 hr3 hs3 hBc hBw HDO HF1 HF2
      have c0 := hXc.cell 0; have c1 := hXc.cell 1; simp only [List.getElem?_cons_zero, List.getElem?_cons_succ] at c0 c1
      have y0 := hYc.cell 0; have y1 := hYc.cell 1; simp only [List.getElem?_cons_zero, List.getElem?_cons_succ] at y0 y1
      have zp := hYc.lt
      have zq := hXc.lt
      by_cases h1 : (proE a l).2 = 0
      · by_cases h2 : (proE b m).2 = 0
        · have hpl := proE_zero h1
          have hpm := proE_zero h2
          have e0 : disE a l b m = 0 := by rw [HD.out, h1, h2]; rfl
          have e3 : disR a l b m = dst (plasma a l) (plasma b m) 6501 := by
            rw [HR.out, if_pos e0]
            refine dist_more hpl.b0 (fun g hg => (hpl.all g hg).2.2.1) (fun g hg => (hpm.all g hg).2.2.1) ?_
            have q1 := hgt_bd hpl.slabs (Nat.le_refl l.length)
            have q2 := hgt_bd hpm.slabs (Nat.le_refl m.length)
            have q3 := hpl.n1
            have q4 := hpm.n1
            have q5 := hpl.b1
            have q6 := hpm.b1
            unfold distN
            omega
          have HDI := hide (fun W h h' => refDistance_c a b A B c d l m W h h' hpl hpm)
          rw [h1] at HE1
          rw [h2] at HE2
          rw [e0, e3]
          generalize dst (plasma a l) (plasma b m) 6501 = D at HDI ⊢
          clear h1 h2 hpl hpm e0 e3 HD HR
          go_wp2_with (first
            | (go_at_call 30; with_reducible refine (HE1.out _ hrc).mono ?_; rintro e w7 ⟨rfl, hb7⟩; have hX7 := hXc.bel hb7; have hY7 := hYc.bel hb7; have hr7 := hrc.bel hb7; have hs7 := hsc.bel hb7; have k0 := hX7.cell 0; have k1 := hX7.cell 1; simp only [List.getElem?_cons_zero, List.getElem?_cons_succ] at k0 k1; have n0 := hY7.cell 0; have n1 := hY7.cell 1; simp only [List.getElem?_cons_zero, List.getElem?_cons_succ] at n0 n1; have zk := hX7.lt; have zn := hY7.lt)
            | (go_at_call 30; with_reducible refine (HE2.out _ hs7).mono ?_; rintro e w8 ⟨rfl, hb8⟩; have hX8 := hX7.bel hb8; have hY8 := hY7.bel hb8; have hr8 := hr7.bel hb8; have hs8 := hs7.bel hb8; have i0 := hX8.cell 0; have i1 := hX8.cell 1; simp only [List.getElem?_cons_zero, List.getElem?_cons_succ] at i0 i1; have j0 := hY8.cell 0; have j1 := hY8.cell 1; simp only [List.getElem?_cons_zero, List.getElem?_cons_succ] at j0 j1; have zi := hX8.lt; have zj := hY8.lt)
            | (go_at_call 37; refine (HDI.out _ hr8 hs8).mono ?_; rintro e w9 ⟨rfl, hb9⟩))
          go_ret
          exact ⟨rfl, by rw [hp]; exact hBf.trans ((tr (tr hb7 hb8 hb7.size) hb9 (by have := hb7.size; have := hb8.size; omega)).mono (by omega))⟩
        · have e0 : disE a l b m = (proE b m).2 := by rw [HD.out, h1]; simp [firstE, h2]
          have e3 : disR a l b m = 0 := by rw [HR.out, e0, if_neg h2]
          have e1 : ((proE b m).2 != 0) = true := by simpa using h2
          rw [h1] at HE1
          rw [e0, e3]
          clear h1 h2 e0 e3 HD HR
          generalize (proE b m).2 = E at HE2 e1 ⊢
          go_wp2_with (first
            | (go_at_call 30; with_reducible refine (HE1.out _ hrc).mono ?_; rintro e w7 ⟨rfl, hb7⟩; have hX7 := hXc.bel hb7; have hY7 := hYc.bel hb7; have hr7 := hrc.bel hb7; have hs7 := hsc.bel hb7; have k0 := hX7.cell 0; have k1 := hX7.cell 1; simp only [List.getElem?_cons_zero, List.getElem?_cons_succ] at k0 k1; have n0 := hY7.cell 0; have n1 := hY7.cell 1; simp only [List.getElem?_cons_zero, List.getElem?_cons_succ] at n0 n1; have zk := hX7.lt; have zn := hY7.lt)
            | (go_at_call 30; with_reducible refine (HE2.out _ hs7).mono ?_; rintro e w8 ⟨rfl, hb8⟩))
          go_ret
          exact ⟨rfl, by rw [hp]; exact hBf.trans ((tr hb7 hb8 hb7.size).mono (by omega))⟩
      · have e0 : disE a l b m = (proE a l).2 := by rw [HD.out]; simp [firstE, h1]
        have e3 : disR a l b m = 0 := by rw [HR.out, e0, if_neg h1]
        have e1 : ((proE a l).2 != 0) = true := by simpa using h1
        have e2 : ((proE a l).2 == 0) = false := by simpa using h1
        rw [e0, e3]
        clear h1 e0 e3 HD HR
        generalize (proE a l).2 = E at HE1 e1 e2 ⊢
        go_wp2_with (first
          | (go_at_call 30; with_reducible refine (HE1.out _ hrc).mono ?_; rintro e w7 ⟨rfl, hb7⟩))
        go_ret
        exact ⟨rfl, by rw [hp]; exact hBf.trans (hb7.mono (by omega))⟩
    · rw [decide_eq_false h15] at HF2
      clear hlx hmx h14 h15
      go_enter Try.func5, Try.ntmps5
      go_upto_region 1 with fail
      rw [HW.out]
      go_wp2_with (first
        | (go_at_call 15; refine (awake_c _).mono ?_; rintro e w1 ⟨rfl, hb1⟩; have hX1 := hX0.bel hb1; have hY1 := hY0.bel hb1; have k0 := hX1.cell 0; have k1 := hX1.cell 1; simp only [List.getElem?_cons_zero, List.getElem?_cons_succ] at k0 k1; have n0 := hY1.cell 0; have n1 := hY1.cell 1; simp only [List.getElem?_cons_zero, List.getElem?_cons_succ] at n0 n1; have zk := hX1.lt; have zn := hY1.lt)
        | (go_at_call 16; with_reducible refine (HF1.out _).mono ?_; rintro e w2 ⟨rfl, hb2⟩; have hX2 := hX1.bel hb2; have hY2 := hY1.bel hb2; have i0 := hX2.cell 0; have i1 := hX2.cell 1; simp only [List.getElem?_cons_zero, List.getElem?_cons_succ] at i0 i1; have j0 := hY2.cell 0; have j1 := hY2.cell 1; simp only [List.getElem?_cons_zero, List.getElem?_cons_succ] at j0 j1; have zi := hX2.lt; have zj := hY2.lt)
        | (go_at_call 16; with_reducible refine (HF2.out _).mono ?_; rintro e w3 ⟨rfl, hb3⟩))
      go_ret
      exact ⟨rfl, by rw [hp]; exact bel_tr hB0 (by omega) (tr (tr hb1 hb2 hb1.size) hb3 (by have := hb1.size; have := hb2.size; omega))⟩
  · rw [decide_eq_false h14] at HF1
    clear hlx hmx h14
    go_enter Try.func5, Try.ntmps5
    go_upto_region 1 with fail
    rw [HW.out]
    go_wp2_with (first
      | (go_at_call 15; refine (awake_c _).mono ?_; rintro e w1 ⟨rfl, hb1⟩; have hX1 := hX0.bel hb1; have hY1 := hY0.bel hb1; have k0 := hX1.cell 0; have k1 := hX1.cell 1; simp only [List.getElem?_cons_zero, List.getElem?_cons_succ] at k0 k1; have n0 := hY1.cell 0; have n1 := hY1.cell 1; simp only [List.getElem?_cons_zero, List.getElem?_cons_succ] at n0 n1; have zk := hX1.lt; have zn := hY1.lt)
      | (go_at_call 16; with_reducible refine (HF1.out _).mono ?_; rintro e w2 ⟨rfl, hb2⟩))
    go_ret
    exact ⟨rfl, by rw [hp]; exact bel_tr hB0 (by omega) (tr hb1 hb2 hb1.size)⟩
end Go.Proofs.Ytgnhkjfdicdcmaa
