/- Law: laminations. -/
import Derived.Test.YtgnhkjfdicdcmaaF16
import Derived.Test.YtgnhkjfdicdcmaaK4
namespace Go.Proofs.Ytgnhkjfdicdcmaa
open Go.RowKit
set_option maxRecDepth 100000

set_option maxHeartbeats 4000000 in
theorem laminationsLaw_c (A : Option Addr) (c : Nat) (after width : Int) (l : List PT) (w : World) (hr : Rd w A (ps l)) (hmx : l.length ≤ maxLen) :
    Calls Try.prog 11 #[.agg #[.slice A l.length c, .int .i64 after, .int .i64 width]] w fun r w' => r = .returned (.bool true) ∧ Below w.heap.size w w' := by
  obtain ⟨W0, hW0⟩ : ∃ W0, w.alloc (.cells #[.slice A l.length c, .int .i64 after, .int .i64 width] 73) = W0 := ⟨_, rfl⟩
  have hX0 : Blk W0 w.heap.size 73 [.slice A l.length c, .int .i64 after, .int .i64 width] := by rw [← hW0]; exact Blk.new w _ [_, _, _]
  have hB0 : Below w.heap.size w W0 := by rw [← hW0]; exact alloc_bel w _
  have hr0 := hr.bel hB0
  have HW := hide hW0
  clear hW0 hr
  have c0 := hX0.cell 0; have c1 := hX0.cell 1; have c2 := hX0.cell 2; simp only [List.getElem?_cons_zero, List.getElem?_cons_succ] at c0 c1 c2
  have z0 := hX0.lt
  have HFew := hide (fun W => fewPoints_c A c after width l W hmx)
  by_cases h10 : l.length ≤ 10
  · rw [decide_eq_true h10] at HFew
    have hl : l.length ≤ 1000 := by omega
    clear hmx h10
    have HCK := hide (fun A c W h => checkTrace_c A c after width l W h hl)
    have HRC := hide (fun W h => refCheckTrace_c A c after width l W h hl)
    by_cases h1 : (trE l after width).2 = 0
    · have hT := trE_zero h1
      rw [hT.err] at HCK HRC
      dsimp only at HCK HRC
      have hn0 := hT.n0
      have hn1 := hT.n1
      clear h1
      by_cases h0 : (lam l after width (l.length - 1)).2 = 0
      · have hLn := lam_length h0
        have hTh := lam_thick hT (k := l.length - 1) (by omega)
        have HLA : Hid (∀ (A : Option Addr) (c : Nat) W, Rd W A (ps l) → Calls Try.prog 53 #[.agg #[.slice A l.length c, .int .i64 after, .int .i64 width]] W fun r w' => (∃ A c, r = .returned (.tuple #[.slice A (l.length - 1) c, .int .i64 0, .int .i64 0]) ∧ Rd w' A (gs (lam l after width (l.length - 1)).1)) ∧ Below W.heap.size W w') := fun A c W h => (laminatedAll_ok A c after width l W h hT).mono fun r w' hx => by
          obtain ⟨h, hb⟩ := hx
          rcases h with ⟨_, a, b, h, h'⟩ | ⟨h, _⟩
          · exact ⟨⟨a, b, h, h'.1⟩, hb⟩
          · exact absurd h0 h
        have HHE := hide (fun A c W h => heightsOf_ok A c after width l W h hT h0)
        have HRL : Hid (∀ W, Rd W A (ps l) → Calls Try.prog 56 #[.agg #[.slice A l.length c, .int .i64 after, .int .i64 width]] W fun r w' => (∃ A c, r = .returned (.tuple #[.slice A (l.length - 1) c, .int .i64 0, .bool true]) ∧ Rd w' A (gs (lam l after width (l.length - 1)).1)) ∧ Below W.heap.size W w') := fun W h => (refLaminated_c A c after width l (l.length - 1) W h hT (by omega) (by omega)).mono fun r w' hx => by
          obtain ⟨h, hb⟩ := hx
          rcases h with ⟨_, h⟩ | ⟨h, _⟩
          · exact ⟨h, hb⟩
          · exact absurd h0 h
        obtain ⟨L, hL⟩ : ∃ L, (lam l after width (l.length - 1)).1 = L := ⟨_, rfl⟩
        rw [hL] at hLn hTh HLA HHE HRL
        rw [← hLn] at HLA HRL
        have HRH := hide (fun B d W h h' => refHeightsOf_c A B c d after width l L W h h' hT hTh (by omega))
        have hL1 : L.length + 1 = l.length := by omega
        rw [hL1] at HRH
        have HG1 := hide (fun A B c d W h h' => ranges_c L L A B c d W h h' (by omega))
        have HG2 := hide (fun A B c d W h h' => ranges_c (hts l after width L l.length) (hts l after width L l.length) A B c d W h h' (by rw [hts_length]; omega))
        rw [decide_eq_true rfl] at HG1 HG2
        rw [hts_length] at HG2
        generalize hts l after width L l.length = HT at HHE HRH HG2
        clear hL hLn hTh hL1 h0 hT
        go_enter Try.func11, Try.ntmps11
        go_upto_region 1 with fail
        rw [HW.out]
        go_upto_region 5 with (first
          | (go_at_call 15; refine (awake_c _).mono ?_; rintro e w1 ⟨rfl, hb1⟩; have hX1 := hX0.bel hb1; have k0 := hX1.cell 0; have k1 := hX1.cell 1; have k2 := hX1.cell 2; simp only [List.getElem?_cons_zero, List.getElem?_cons_succ] at k0 k1 k2; have zk := hX1.lt)
          | (go_at_call 50; refine (HFew.out _).mono ?_; rintro e w2 ⟨rfl, hb2⟩))
        have hB2 := tr hb1 hb2 hb1.size
        have hX2 := hX1.bel hb2
        have hr2 := hr0.bel hB2
        clear c0 c1 c2 z0 k0 k1 k2 zk hX1 hb1 hb2 hX0 hr0
        have d0 := hX2.cell 0; have d1 := hX2.cell 1; have d2 := hX2.cell 2; simp only [List.getElem?_cons_zero, List.getElem?_cons_succ] at d0 d1 d2
        have zd := hX2.lt
        go_upto_region 6 with (first
          | (go_at_call 52; refine (copyTrace_c A c after width l _ hr2 hl).mono ?_; rintro e wa3 ⟨⟨Aa3, qa3, rfl, hra3⟩, hba3⟩)
          | (go_at_call 51; refine (HCK.out Aa3 qa3 _ hra3).mono ?_; rintro e w3 ⟨rfl, hb3⟩))
        have hbb3 := tr hba3 hb3 hba3.size
        have hX3 := hX2.bel hbb3
        have hr3 := hr2.bel hbb3
        have hB3 := tr hB2 hbb3 hB2.size
        clear d0 d1 d2 zd hX2 hr2 hra3 hba3 hb3 hB2
        have d0 := hX3.cell 0; have d1 := hX3.cell 1; have d2 := hX3.cell 2; simp only [List.getElem?_cons_zero, List.getElem?_cons_succ] at d0 d1 d2
        have zd := hX3.lt
        go_upto_region 7 with (first
          | (go_at_call 52; refine (copyTrace_c A c after width l _ hr3 hl).mono ?_; rintro e wa4 ⟨⟨Aa4, qa4, rfl, hra4⟩, hba4⟩)
          | (go_at_call 53; refine (HLA.out Aa4 qa4 _ hra4).mono ?_; rintro e w4 ⟨⟨LA, lq, rfl, hL4⟩, hb4⟩))
        have hbb4 := tr hba4 hb4 hba4.size
        have hX4 := hX3.bel hbb4
        have hr4 := hr3.bel hbb4
        have hB4 := tr hB3 hbb4 hB3.size
        clear d0 d1 d2 zd hX3 hr3 hra4 hba4 hb4 hB3
        have d0 := hX4.cell 0; have d1 := hX4.cell 1; have d2 := hX4.cell 2; simp only [List.getElem?_cons_zero, List.getElem?_cons_succ] at d0 d1 d2
        have zd := hX4.lt
        go_upto_region 8 with (first
          | (go_at_call 52; refine (copyTrace_c A c after width l _ hr4 hl).mono ?_; rintro e wa5 ⟨⟨Aa5, qa5, rfl, hra5⟩, hba5⟩)
          | (go_at_call 54; refine (HHE.out Aa5 qa5 _ hra5).mono ?_; rintro e w5 ⟨⟨HA, hq, rfl, hH5⟩, hb5⟩))
        have hbb5 := tr hba5 hb5 hba5.size
        have hX5 := hX4.bel hbb5
        have hr5 := hr4.bel hbb5
        have hB5 := tr hB4 hbb5 hB4.size
        clear d0 d1 d2 zd hX4 hr4 hra5 hba5 hb5 hB4
        have d0 := hX5.cell 0; have d1 := hX5.cell 1; have d2 := hX5.cell 2; simp only [List.getElem?_cons_zero, List.getElem?_cons_succ] at d0 d1 d2
        have zd := hX5.lt
        have hL5 := hL4.bel hbb5
        go_upto_region 9 with (first | (go_at_call 55; refine (HRC.out _ hr5).mono ?_; rintro e w6 ⟨rfl, hb6⟩))
        have hX6 := hX5.bel hb6
        have hr6 := hr5.bel hb6
        have hB6 := tr hB5 hb6 hB5.size
        clear d0 d1 d2 zd hX5 hr5 hB5
        have d0 := hX6.cell 0; have d1 := hX6.cell 1; have d2 := hX6.cell 2; simp only [List.getElem?_cons_zero, List.getElem?_cons_succ] at d0 d1 d2
        have zd := hX6.lt
        have hL6 := hL5.bel hb6
        have hH6 := hH5.bel hb6
        go_wp2_with (first
          | (go_at_call 56; refine (HRL.out _ hr6).mono ?_; rintro e w7 ⟨⟨RA, rq, rfl, hR7⟩, hb7⟩; have hX7 := hX6.bel hb7; have hr7 := hr6.bel hb7; have hL7 := hL6.bel hb7; have hH7 := hH6.bel hb7; have hB7 := tr hB6 hb7 hB6.size; have k0 := hX7.cell 0; have k1 := hX7.cell 1; have k2 := hX7.cell 2; simp only [List.getElem?_cons_zero, List.getElem?_cons_succ] at k0 k1 k2; have zk := hX7.lt)
          | (go_at_call 57; have _g := hX8; with_reducible refine (HG2.out _ _ _ _ _ hH9 hS9).mono ?_; rintro e w10 ⟨rfl, hb10⟩)
          | (go_at_call 57; with_reducible refine (HG1.out _ _ _ _ _ hL7 hR7).mono ?_; rintro e w8 ⟨rfl, hb8⟩; have hX8 := hX7.bel hb8; have hr8 := hr7.bel hb8; have hR8 := hR7.bel hb8; have hH8 := hH7.bel hb8; have hB8 := tr hB7 hb8 hB7.size; have m0 := hX8.cell 0; have m1 := hX8.cell 1; have m2 := hX8.cell 2; simp only [List.getElem?_cons_zero, List.getElem?_cons_succ] at m0 m1 m2; have zm := hX8.lt)
          | (go_at_call 58; refine (HRH.out RA rq _ hr8 hR8).mono ?_; rintro e w9 ⟨⟨SA, sq, rfl, hS9⟩, hb9⟩; have hH9 := hH8.bel hb9; have hB9 := tr hB8 hb9 hB8.size))
        go_ret
        exact ⟨rfl, tr hB0 (tr hB9 hb10 hB9.size) hB0.size⟩
      · have HLA : Hid (∀ (A : Option Addr) (c : Nat) W, Rd W A (ps l) → Calls Try.prog 53 #[.agg #[.slice A l.length c, .int .i64 after, .int .i64 width]] W fun r w' => r = .returned (.tuple #[.slice none 0 0, .int .i64 (lam l after width (l.length - 1)).2, .int .i64 13]) ∧ Below W.heap.size W w') := fun A c W h => (laminatedAll_ok A c after width l W h hT).mono fun r w' hx => by
          obtain ⟨h, hb⟩ := hx
          rcases h with ⟨h, _⟩ | ⟨_, h⟩
          · exact absurd h h0
          · exact ⟨h, hb⟩
        have HHE := hide (fun A c W h => heightsOf_clash A c after width l W h hT h0)
        have HRL : Hid (∀ W, Rd W A (ps l) → Calls Try.prog 56 #[.agg #[.slice A l.length c, .int .i64 after, .int .i64 width]] W fun r w' => r = .returned (.tuple #[.slice none 0 0, .int .i64 (lam l after width (l.length - 1)).2, .bool false]) ∧ Below W.heap.size W w') := fun W h => (refLaminated_c A c after width l (l.length - 1) W h hT (by omega) (by omega)).mono fun r w' hx => by
          obtain ⟨h, hb⟩ := hx
          rcases h with ⟨h, _⟩ | ⟨_, h⟩
          · exact absurd h h0
          · exact ⟨h, hb⟩
        clear h0 hT
        generalize (lam l after width (l.length - 1)).2 = I0 at HLA HRL
        go_enter Try.func11, Try.ntmps11
        go_upto_region 1 with fail
        rw [HW.out]
        go_upto_region 5 with (first
          | (go_at_call 15; refine (awake_c _).mono ?_; rintro e w1 ⟨rfl, hb1⟩; have hX1 := hX0.bel hb1; have k0 := hX1.cell 0; have k1 := hX1.cell 1; have k2 := hX1.cell 2; simp only [List.getElem?_cons_zero, List.getElem?_cons_succ] at k0 k1 k2; have zk := hX1.lt)
          | (go_at_call 50; refine (HFew.out _).mono ?_; rintro e w2 ⟨rfl, hb2⟩))
        have hB2 := tr hb1 hb2 hb1.size
        have hX2 := hX1.bel hb2
        have hr2 := hr0.bel hB2
        clear c0 c1 c2 z0 k0 k1 k2 zk hX1 hb1 hb2 hX0 hr0
        have d0 := hX2.cell 0; have d1 := hX2.cell 1; have d2 := hX2.cell 2; simp only [List.getElem?_cons_zero, List.getElem?_cons_succ] at d0 d1 d2
        have zd := hX2.lt
        go_upto_region 6 with (first
          | (go_at_call 52; refine (copyTrace_c A c after width l _ hr2 hl).mono ?_; rintro e wa3 ⟨⟨Aa3, qa3, rfl, hra3⟩, hba3⟩)
          | (go_at_call 51; refine (HCK.out Aa3 qa3 _ hra3).mono ?_; rintro e w3 ⟨rfl, hb3⟩))
        have hbb3 := tr hba3 hb3 hba3.size
        have hX3 := hX2.bel hbb3
        have hr3 := hr2.bel hbb3
        have hB3 := tr hB2 hbb3 hB2.size
        clear d0 d1 d2 zd hX2 hr2 hra3 hba3 hb3 hB2
        have d0 := hX3.cell 0; have d1 := hX3.cell 1; have d2 := hX3.cell 2; simp only [List.getElem?_cons_zero, List.getElem?_cons_succ] at d0 d1 d2
        have zd := hX3.lt
        go_upto_region 7 with (first
          | (go_at_call 52; refine (copyTrace_c A c after width l _ hr3 hl).mono ?_; rintro e wa4 ⟨⟨Aa4, qa4, rfl, hra4⟩, hba4⟩)
          | (go_at_call 53; refine (HLA.out Aa4 qa4 _ hra4).mono ?_; rintro e w4 ⟨rfl, hb4⟩))
        have hbb4 := tr hba4 hb4 hba4.size
        have hX4 := hX3.bel hbb4
        have hr4 := hr3.bel hbb4
        have hB4 := tr hB3 hbb4 hB3.size
        clear d0 d1 d2 zd hX3 hr3 hra4 hba4 hb4 hB3
        have d0 := hX4.cell 0; have d1 := hX4.cell 1; have d2 := hX4.cell 2; simp only [List.getElem?_cons_zero, List.getElem?_cons_succ] at d0 d1 d2
        have zd := hX4.lt
        go_upto_region 8 with (first
          | (go_at_call 52; refine (copyTrace_c A c after width l _ hr4 hl).mono ?_; rintro e wa5 ⟨⟨Aa5, qa5, rfl, hra5⟩, hba5⟩)
          | (go_at_call 54; refine (HHE.out Aa5 qa5 _ hra5).mono ?_; rintro e w5 ⟨rfl, hb5⟩))
        have hbb5 := tr hba5 hb5 hba5.size
        have hX5 := hX4.bel hbb5
        have hr5 := hr4.bel hbb5
        have hB5 := tr hB4 hbb5 hB4.size
        clear d0 d1 d2 zd hX4 hr4 hra5 hba5 hb5 hB4
        have d0 := hX5.cell 0; have d1 := hX5.cell 1; have d2 := hX5.cell 2; simp only [List.getElem?_cons_zero, List.getElem?_cons_succ] at d0 d1 d2
        have zd := hX5.lt
        go_upto_region 9 with (first | (go_at_call 55; refine (HRC.out _ hr5).mono ?_; rintro e w6 ⟨rfl, hb6⟩))
        have hX6 := hX5.bel hb6
        have hr6 := hr5.bel hb6
        have hB6 := tr hB5 hb6 hB5.size
        clear d0 d1 d2 zd hX5 hr5 hB5
        have d0 := hX6.cell 0; have d1 := hX6.cell 1; have d2 := hX6.cell 2; simp only [List.getElem?_cons_zero, List.getElem?_cons_succ] at d0 d1 d2
        have zd := hX6.lt
        go_wp2_with (first
          | (go_at_call 56; refine (HRL.out _ hr6).mono ?_; rintro e w7 ⟨rfl, hb7⟩))
        go_ret
        exact ⟨rfl, tr hB0 (tr hB6 hb7 hB6.size) hB0.size⟩
    · have HLA := hide (fun A c W h => laminatedAll_bad A c after width l W h hl h1)
      have HHE := hide (fun A c W h => heightsOf_bad A c after width l W h hl h1)
      have e1 : ((trE l after width).2 != 0) = true := by simpa using h1
      clear h1
      generalize (trE l after width).2 = E at HCK HRC HLA HHE e1
      generalize (trE l after width).1 = I0 at HCK HRC
      go_enter Try.func11, Try.ntmps11
      go_upto_region 1 with fail
      rw [HW.out]
      go_upto_region 5 with (first
        | (go_at_call 15; refine (awake_c _).mono ?_; rintro e w1 ⟨rfl, hb1⟩; have hX1 := hX0.bel hb1; have k0 := hX1.cell 0; have k1 := hX1.cell 1; have k2 := hX1.cell 2; simp only [List.getElem?_cons_zero, List.getElem?_cons_succ] at k0 k1 k2; have zk := hX1.lt)
        | (go_at_call 50; refine (HFew.out _).mono ?_; rintro e w2 ⟨rfl, hb2⟩))
      have hB2 := tr hb1 hb2 hb1.size
      have hX2 := hX1.bel hb2
      have hr2 := hr0.bel hB2
      clear c0 c1 c2 z0 k0 k1 k2 zk hX1 hb1 hb2 hX0 hr0
      have d0 := hX2.cell 0; have d1 := hX2.cell 1; have d2 := hX2.cell 2; simp only [List.getElem?_cons_zero, List.getElem?_cons_succ] at d0 d1 d2
      have zd := hX2.lt
      go_upto_region 6 with (first
        | (go_at_call 52; refine (copyTrace_c A c after width l _ hr2 hl).mono ?_; rintro e wa3 ⟨⟨Aa3, qa3, rfl, hra3⟩, hba3⟩)
        | (go_at_call 51; refine (HCK.out Aa3 qa3 _ hra3).mono ?_; rintro e w3 ⟨rfl, hb3⟩))
      have hbb3 := tr hba3 hb3 hba3.size
      have hX3 := hX2.bel hbb3
      have hr3 := hr2.bel hbb3
      have hB3 := tr hB2 hbb3 hB2.size
      clear d0 d1 d2 zd hX2 hr2 hra3 hba3 hb3 hB2
      have d0 := hX3.cell 0; have d1 := hX3.cell 1; have d2 := hX3.cell 2; simp only [List.getElem?_cons_zero, List.getElem?_cons_succ] at d0 d1 d2
      have zd := hX3.lt
      go_upto_region 7 with (first
        | (go_at_call 52; refine (copyTrace_c A c after width l _ hr3 hl).mono ?_; rintro e wa4 ⟨⟨Aa4, qa4, rfl, hra4⟩, hba4⟩)
        | (go_at_call 53; refine (HLA.out Aa4 qa4 _ hra4).mono ?_; rintro e w4 ⟨rfl, hb4⟩))
      have hbb4 := tr hba4 hb4 hba4.size
      have hX4 := hX3.bel hbb4
      have hr4 := hr3.bel hbb4
      have hB4 := tr hB3 hbb4 hB3.size
      clear d0 d1 d2 zd hX3 hr3 hra4 hba4 hb4 hB3
      have d0 := hX4.cell 0; have d1 := hX4.cell 1; have d2 := hX4.cell 2; simp only [List.getElem?_cons_zero, List.getElem?_cons_succ] at d0 d1 d2
      have zd := hX4.lt
      go_upto_region 8 with (first
        | (go_at_call 52; refine (copyTrace_c A c after width l _ hr4 hl).mono ?_; rintro e wa5 ⟨⟨Aa5, qa5, rfl, hra5⟩, hba5⟩)
        | (go_at_call 54; refine (HHE.out Aa5 qa5 _ hra5).mono ?_; rintro e w5 ⟨rfl, hb5⟩))
      have hbb5 := tr hba5 hb5 hba5.size
      have hX5 := hX4.bel hbb5
      have hr5 := hr4.bel hbb5
      have hB5 := tr hB4 hbb5 hB4.size
      clear d0 d1 d2 zd hX4 hr4 hra5 hba5 hb5 hB4
      have d0 := hX5.cell 0; have d1 := hX5.cell 1; have d2 := hX5.cell 2; simp only [List.getElem?_cons_zero, List.getElem?_cons_succ] at d0 d1 d2
      have zd := hX5.lt
      go_upto_region 9 with (first | (go_at_call 55; refine (HRC.out _ hr5).mono ?_; rintro e w6 ⟨rfl, hb6⟩))
      have hX6 := hX5.bel hb6
      have hr6 := hr5.bel hb6
      have hB6 := tr hB5 hb6 hB5.size
      clear d0 d1 d2 zd hX5 hr5 hB5
      have d0 := hX6.cell 0; have d1 := hX6.cell 1; have d2 := hX6.cell 2; simp only [List.getElem?_cons_zero, List.getElem?_cons_succ] at d0 d1 d2
      have zd := hX6.lt
      go_wp2
      go_ret
      exact ⟨rfl, tr hB0 hB6 hB0.size⟩
  · rw [decide_eq_false h10] at HFew
    clear hmx h10
    go_enter Try.func11, Try.ntmps11
    go_upto_region 1 with fail
    rw [HW.out]
    go_wp2_with (first
      | (go_at_call 15; refine (awake_c _).mono ?_; rintro e w1 ⟨rfl, hb1⟩; have hX1 := hX0.bel hb1; have k0 := hX1.cell 0; have k1 := hX1.cell 1; have k2 := hX1.cell 2; simp only [List.getElem?_cons_zero, List.getElem?_cons_succ] at k0 k1 k2; have zk := hX1.lt)
      | (go_at_call 50; refine (HFew.out _).mono ?_; rintro e w2 ⟨rfl, hb2⟩))
    go_ret
    exact ⟨rfl, tr hB0 (tr hb1 hb2 hb1.size) hB0.size⟩
end Go.Proofs.Ytgnhkjfdicdcmaa
