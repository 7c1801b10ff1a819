/- Contracts: the greatest square; law: slabs. -/
import Derived.Test.YtgnhkjfdicdcmaaH2
namespace Go.Proofs.Ytgnhkjfdicdcmaa
open Go.RowKit
set_option maxRecDepth 100000


def critR (base : Int) (l : List G) : Int × Int × Int := if (proE base l).2 = 0 then (critI l, bestI l l.length, 0) else (0, 0, (proE base l).2)
set_option maxHeartbeats 1000000 in
theorem criticalOf_c (base : Int) (A : Option Addr) (c : Nat) (l : List G) (w : World) (hr : Rd w A (gs l)) (hl : l.length ≤ 1000) :
    Calls Try.prog 20 #[.agg #[.int .i64 base, .slice A l.length c]] w fun r w' => r = .returned (.tuple #[.int .i64 (critR base l).1, .int .i64 (critR base l).2.1, .int .i64 (critR base l).2.2]) ∧ Below w.heap.size w w' := by
  have HE := hide (fun W h => profileError_c base A c l W h hl)
  obtain ⟨W0, hW0⟩ : ∃ W0, w.alloc (.cells #[.int .i64 base, .slice A l.length c] 24) = W0 := ⟨_, rfl⟩
  have hX0 : Blk W0 w.heap.size 24 [.int .i64 base, .slice A l.length c] := by rw [← hW0]; exact Blk.new w _ [_, _]
  have hB0 : Below w.heap.size w W0 := by rw [← hW0]; exact alloc_bel w _
  have hr0 := hr.bel hB0
  have HW := hide hW0
  clear hW0 hr
  have c0 := hX0.cell 0; have c1 := hX0.cell 1; simp only [List.getElem?_cons_zero, List.getElem?_cons_succ] at c0 c1
  have z0 := hX0.lt
  by_cases he : (proE base l).2 = 0
  · have hP := proE_zero he
    have hn := hP.slabs.n1
    have hn0 := hP.n0
    have HR : Hid (critR base l = (critI l, (bestI l l.length : Int), 0)) := by show _ = _; unfold critR; rw [if_pos he]
    have HC : Hid (critI l = (l.getD (bestI l l.length) G0).1) := rfl
    rw [he] at HE
    clear he hP
    go_enter Try.func20, Try.ntmps20
    go_upto_region 1 with fail
    rw [HW.out]
    go_upto_region 5 with (first | (go_at_call 76; refine (HE.out _ hr0).mono ?_; rintro e w1 ⟨rfl, hb1⟩; have hX1 := hX0.bel hb1; have k0 := hX1.cell 0; have k1 := hX1.cell 1; simp only [List.getElem?_cons_zero, List.getElem?_cons_succ] at k0 k1; have zk := hX1.lt))
    have hr1 := hr0.bel hb1
    have hB1 := bel_tr hB0 (by omega) hb1
    go_wp2
    clear k0 k1 zk c0 c1
    go_loopw [6, 17] (fun x i wr => ∃ k : Nat, k ≤ l.length ∧ x = .int .i64 (bestI l k) ∧ i = .int .i64 k ∧ Below w1.heap.size w1 wr) (fun _ i _ => l.length - (intOf i).toNat)
    case atStart => exact ⟨0, Nat.zero_le _, rfl, rfl, Below.refl _ _⟩
    case round =>
      obtain ⟨k, hk, rfl, rfl, hb⟩ := hrel
      have hXr := hX1.bel hb
      have zr := hXr.lt
      by_cases hlt : k < l.length
      · have hbl : bestI l k < l.length := by have := bestI_le l k; omega
        obtain ⟨b, off, rfl, hblt, hc0, hc1⟩ := (hr1.bel hb).g_at hlt
        obtain ⟨b2, off2, e2, hblt2, hd0, hd1⟩ := (hr1.bel hb).g_at hbl
        cases e2
        have HX : Hid (bestI l (k + 1) = if (l.getD (bestI l k) G0).1 < (l.getD k G0).1 then k else bestI l k) := rfl
        rw [getD_at hlt, getD_at hbl] at HX
        generalize l[k].2 = t1 at hc1
        clear hd1
        generalize l[k].1 = s1 at hc0 HX
        generalize l[bestI l k].1 = s2 at hd0 HX
        generalize bestI l k = B at hbl hd0 HX ⊢
        go_upto_region 8 with fail
        obtain ⟨W3, hW3⟩ : ∃ W3, wr.alloc (.cells #[.int .i64 s1, .int .i64 t1] 69) = W3 := ⟨_, rfl⟩
        have hb3 : Below wr.heap.size wr W3 := by rw [← hW3]; exact alloc_bel _ _
        have hP3 : Blk W3 wr.heap.size 69 [.int .i64 s1, .int .i64 t1] := by rw [← hW3]; exact Blk.new wr _ [_, _]
        have hX3 := hXr.bel hb3
        rw [hW3]
        clear hW3 hc0 hc1
        have n1 := (hb3.cell hblt2).trans hd0
        have d0 := hX3.cell 0; have d1 := hX3.cell 1; simp only [List.getElem?_cons_zero, List.getElem?_cons_succ] at d0 d1
        have g0 := hP3.cell 0; have g1 := hP3.cell 1; simp only [List.getElem?_cons_zero, List.getElem?_cons_succ] at g0 g1
        have z3 := hX3.lt
        have z4 := hP3.lt
        clear hd0
        by_cases hh : s2 < s1
        · have e1 : decide (s2 < s1) = true := decide_eq_true hh
          have HF : Hid (bestI l (k + 1) = k) := by show _ = _; rw [HX.out, if_pos hh]
          clear hh HX
          go_quiet (fail)
          go_wp2
          go_roundw
          case rel => exact ⟨k + 1, by omega, by rw [HF.out], by go_num, below_drewN (tr hb hb3 hb.size) _⟩
          case measure => simp [intOf]; omega
        · have e1 : decide (s2 < s1) = false := decide_eq_false hh
          have HF : Hid (bestI l (k + 1) = B) := by show _ = _; rw [HX.out, if_neg hh]
          clear hh HX
          go_quiet (fail)
          go_wp2
          go_roundw
          case rel => exact ⟨k + 1, by omega, by rw [HF.out], by go_num, below_drewN (tr hb hb3 hb.size) _⟩
          case measure => simp [intOf]; omega
      · obtain rfl : k = l.length := by omega
        have hbl : bestI l l.length < l.length := bestI_lt l hn0
        obtain ⟨b, off, rfl, hblt, hc0, hc1⟩ := (hr1.bel hb).g_at hbl
        rw [getD_at hbl] at HC
        clear hc1
        have d0 := hXr.cell 0; have d1 := hXr.cell 1; simp only [List.getElem?_cons_zero, List.getElem?_cons_succ] at d0 d1
        generalize l[bestI l l.length].1 = s1 at hc0 HC
        obtain ⟨B, hB⟩ : ∃ B, bestI l l.length = B := ⟨_, rfl⟩
        have HB := hide hB
        rw [hB] at hbl hc0 ⊢
        clear hB
        go_wp2
        exact bodyPost_ret (v := .tuple #[.int .i64 s1, .int .i64 B, .int .i64 0]) (by simp [results, Try.results20, go_sem]; try rfl) rfl ⟨by rw [HR.out, HC.out, HB.out], bel_tr hB1 (by have := hB1.size; omega) hb⟩
  · have e1 : ((proE base l).2 != 0) = true := by simpa using he
    have HR : Hid (critR base l = (0, 0, (proE base l).2)) := by show _ = _; unfold critR; rw [if_neg he]
    clear he
    generalize (proE base l).2 = E at HE HR e1
    go_enter Try.func20, Try.ntmps20
    go_upto_region 1 with fail
    rw [HW.out]
    go_wp2_with (first | (go_at_call 76; refine (HE.out _ hr0).mono ?_; rintro e w1 ⟨rfl, hb1⟩))
    exact bodyPost_ret (v := .tuple #[.int .i64 0, .int .i64 0, .int .i64 E]) (by simp [results, Try.results20, go_sem]; try rfl) rfl ⟨by rw [HR.out], bel_tr hB0 (by omega) hb1⟩


set_option maxHeartbeats 4000000 in
theorem slabsLaw_c (base h : Int) (A : Option Addr) (c : Nat) (l : List G) (w : World) (hr : Rd w A (gs l)) (hmx : l.length ≤ maxLen) :
    Calls Try.prog 3 #[.agg #[.int .i64 base, .slice A l.length c], .int .i64 h] w fun r w' => r = .returned (.bool true) ∧ Below w.heap.size w w' := by
  obtain ⟨W0, hW0⟩ : ∃ W0, w.alloc (.cells #[.int .i64 base, .slice A l.length c] 24) = W0 := ⟨_, rfl⟩
  have hX0 : Blk W0 w.heap.size 24 [.int .i64 base, .slice A l.length c] := by rw [← hW0]; exact Blk.new w _ [_, _]
  have hB0 : Below w.heap.size w W0 := by rw [← hW0]; exact alloc_bel w _
  have hr0 := hr.bel hB0
  have HW := hide hW0
  clear hW0 hr
  have c0 := hX0.cell 0; have c1 := hX0.cell 1; simp only [List.getElem?_cons_zero, List.getElem?_cons_succ] at c0 c1
  have z0 := hX0.lt
  have HFew := hide (fun W => few_c base A c l W hmx)
  by_cases h14 : l.length ≤ 14
  · rw [decide_eq_true h14] at HFew
    have hl : l.length ≤ 1000 := by omega
    clear hmx
    have HCK := hide (fun A c W h => checkProfile_c base A c l W h hl)
    have HPL := hide (fun A c W hh => plasmaAtAll_c base h A c l W hh hl)
    have HCR := hide (fun A c W h => criticalOf_c base A c l W h hl)
    have HCO := hide (fun A c W h => contentOf_c base A c l W h hl)
    have HRC := hide (fun W h => refCheck_c base A c l W h hl)
    by_cases h1 : (proE base l).2 = 0
    · have hP := proE_zero h1
      have hS := hP.slabs
      have HCT := hide (fun W h => refCritical_c base A c l W h hP)
      have HCN := hide (fun W h => refContent_c base A c l W h hS)
      have HWi := hide (fun W => within_c h 0 10000 W)
      rw [show critR base l = (critI l, (bestI l l.length : Int), 0) by unfold critR; rw [if_pos h1]] at HCR
      rw [show contR base l = (content l l.length, 0) by unfold contR; rw [if_pos h1]] at HCO
      rw [hP.err] at HCK HRC
      dsimp only at HCR HCO HCK HRC
      generalize critI l = CI at HCR HCT
      generalize bestI l l.length = BI at HCR HCT
      generalize content l l.length = CN at HCO HCN
      cases hh : outB h 0 10000
      · have p1 : plasE base l h = 0 := by unfold plasE; rw [h1]; simp [firstE, errIf, hh]
        have p2 : plasR base l h = plasma base l h := by unfold plasR; rw [if_pos p1]
        obtain ⟨q1, q2⟩ := outB_false.1 hh
        have HRP := hide (fun W h' => refPlasma_c base h A c l W h' hS q1 q2)
        rw [p1, p2] at HPL
        rw [hh] at HWi
        generalize plasma base l h = PL at HPL HRP
        clear h1 hP hS hh p1 p2 h14 q1 q2
        go_enter Try.func3, Try.ntmps3
        go_upto_region 1 with fail
        rw [HW.out]
        go_upto_region 5 with (first
          | (go_at_call 15; refine (awake_c _).mono ?_; rintro e w1 ⟨rfl, hb1⟩; have hX1 := hX0.bel hb1; have k0 := hX1.cell 0; have k1 := hX1.cell 1; simp only [List.getElem?_cons_zero, List.getElem?_cons_succ] at k0 k1; have zk := hX1.lt)
          | (go_at_call 16; refine (HFew.out _).mono ?_; rintro e w2 ⟨rfl, hb2⟩))
        have hB2 := tr hb1 hb2 hb1.size
        have hX2 := hX1.bel hb2
        have hr2 := hr0.bel hB2
        clear c0 c1 z0 k0 k1 zk hX1 hb1 hb2 hX0 hr0
        have d0 := hX2.cell 0; have d1 := hX2.cell 1; simp only [List.getElem?_cons_zero, List.getElem?_cons_succ] at d0 d1
        have zd := hX2.lt
        go_upto_region 6 with (first
          | (go_at_call 18; refine (copy_c base A c l _ hr2 hl).mono ?_; rintro e wa3 ⟨⟨Aa3, qa3, rfl, hra3⟩, hba3⟩)
          | (go_at_call 17; refine (HCK.out Aa3 qa3 _ hra3).mono ?_; rintro e w3 ⟨rfl, hb3⟩))
        have hbb3 := tr hba3 hb3 hba3.size
        have hX3 := hX2.bel hbb3
        have hr3 := hr2.bel hbb3
        have hB3 := tr hB2 hbb3 hB2.size
        clear d0 d1 zd hX2 hr2 hra3 hba3 hb3 hbb3 hB2
        have d0 := hX3.cell 0; have d1 := hX3.cell 1; simp only [List.getElem?_cons_zero, List.getElem?_cons_succ] at d0 d1
        have zd := hX3.lt
        go_upto_region 7 with (first
          | (go_at_call 18; refine (copy_c base A c l _ hr3 hl).mono ?_; rintro e wa4 ⟨⟨Aa4, qa4, rfl, hra4⟩, hba4⟩)
          | (go_at_call 19; refine (HPL.out Aa4 qa4 _ hra4).mono ?_; rintro e w4 ⟨rfl, hb4⟩))
        have hbb4 := tr hba4 hb4 hba4.size
        have hX4 := hX3.bel hbb4
        have hr4 := hr3.bel hbb4
        have hB4 := tr hB3 hbb4 hB3.size
        clear d0 d1 zd hX3 hr3 hra4 hba4 hb4 hbb4 hB3
        have d0 := hX4.cell 0; have d1 := hX4.cell 1; simp only [List.getElem?_cons_zero, List.getElem?_cons_succ] at d0 d1
        have zd := hX4.lt
        go_upto_region 8 with (first
          | (go_at_call 18; refine (copy_c base A c l _ hr4 hl).mono ?_; rintro e wa5 ⟨⟨Aa5, qa5, rfl, hra5⟩, hba5⟩)
          | (go_at_call 20; refine (HCR.out Aa5 qa5 _ hra5).mono ?_; rintro e w5 ⟨rfl, hb5⟩))
        have hbb5 := tr hba5 hb5 hba5.size
        have hX5 := hX4.bel hbb5
        have hr5 := hr4.bel hbb5
        have hB5 := tr hB4 hbb5 hB4.size
        clear d0 d1 zd hX4 hr4 hra5 hba5 hb5 hbb5 hB4
        have d0 := hX5.cell 0; have d1 := hX5.cell 1; simp only [List.getElem?_cons_zero, List.getElem?_cons_succ] at d0 d1
        have zd := hX5.lt
        go_upto_region 9 with (first
          | (go_at_call 18; refine (copy_c base A c l _ hr5 hl).mono ?_; rintro e wa6 ⟨⟨Aa6, qa6, rfl, hra6⟩, hba6⟩)
          | (go_at_call 21; refine (HCO.out Aa6 qa6 _ hra6).mono ?_; rintro e w6 ⟨rfl, hb6⟩))
        have hbb6 := tr hba6 hb6 hba6.size
        have hX6 := hX5.bel hbb6
        have hr6 := hr5.bel hbb6
        have hB6 := tr hB5 hbb6 hB5.size
        clear d0 d1 zd hX5 hr5 hra6 hba6 hb6 hbb6 hB5
        have d0 := hX6.cell 0; have d1 := hX6.cell 1; simp only [List.getElem?_cons_zero, List.getElem?_cons_succ] at d0 d1
        have zd := hX6.lt
        go_upto_region 10 with (first | (go_at_call 22; refine (HRC.out _ hr6).mono ?_; rintro e w7 ⟨rfl, hb7⟩))
        have hX7 := hX6.bel hb7
        have hr7 := hr6.bel hb7
        have hB7 := tr hB6 hb7 hB6.size
        clear d0 d1 zd hX6 hr6 hb7 hB6
        have d0 := hX7.cell 0; have d1 := hX7.cell 1; simp only [List.getElem?_cons_zero, List.getElem?_cons_succ] at d0 d1
        have zd := hX7.lt
        go_wp2_with (first
          | (go_at_call 23; refine (HWi.out _).mono ?_; rintro e_ w_ ⟨rfl, rfl⟩)
          | (go_at_call 24; refine (HRP.out _ hr7).mono ?_; rintro e w8 ⟨rfl, hb8⟩; have hr8 := hr7.bel hb8; have hX8 := hX7.bel hb8; have k0 := hX8.cell 0; have k1 := hX8.cell 1; simp only [List.getElem?_cons_zero, List.getElem?_cons_succ] at k0 k1; have z8 := hX8.lt)
          | (go_at_call 25; refine (HCT.out _ hr8).mono ?_; rintro e w9 ⟨rfl, hb9⟩; have hr9 := hr8.bel hb9; have hX9 := hX8.bel hb9; have m0 := hX9.cell 0; have m1 := hX9.cell 1; simp only [List.getElem?_cons_zero, List.getElem?_cons_succ] at m0 m1; have z9 := hX9.lt)
          | (go_at_call 26; refine (HCN.out _ hr9).mono ?_; rintro e w10 ⟨rfl, hb10⟩))
        go_ret
        exact ⟨rfl, tr hB0 (tr (tr (tr hB7 hb8 hB7.size) hb9 (by have := hB7.size; have := hb8.size; omega)) hb10 (by have := hB7.size; have := hb8.size; have := hb9.size; omega)) hB0.size⟩
      · have p1 : plasE base l h = 2 := by unfold plasE; rw [h1]; simp [firstE, errIf, hh]
        have p2 : plasR base l h = 0 := by unfold plasR; rw [p1]; rfl
        rw [p1, p2] at HPL
        rw [hh] at HWi
        clear h1 hP hS hh p1 p2 h14
        go_enter Try.func3, Try.ntmps3
        go_upto_region 1 with fail
        rw [HW.out]
        go_upto_region 5 with (first
          | (go_at_call 15; refine (awake_c _).mono ?_; rintro e w1 ⟨rfl, hb1⟩; have hX1 := hX0.bel hb1; have k0 := hX1.cell 0; have k1 := hX1.cell 1; simp only [List.getElem?_cons_zero, List.getElem?_cons_succ] at k0 k1; have zk := hX1.lt)
          | (go_at_call 16; refine (HFew.out _).mono ?_; rintro e w2 ⟨rfl, hb2⟩))
        have hB2 := tr hb1 hb2 hb1.size
        have hX2 := hX1.bel hb2
        have hr2 := hr0.bel hB2
        clear c0 c1 z0 k0 k1 zk hX1 hb1 hb2 hX0 hr0
        have d0 := hX2.cell 0; have d1 := hX2.cell 1; simp only [List.getElem?_cons_zero, List.getElem?_cons_succ] at d0 d1
        have zd := hX2.lt
        go_upto_region 6 with (first
          | (go_at_call 18; refine (copy_c base A c l _ hr2 hl).mono ?_; rintro e wa3 ⟨⟨Aa3, qa3, rfl, hra3⟩, hba3⟩)
          | (go_at_call 17; refine (HCK.out Aa3 qa3 _ hra3).mono ?_; rintro e w3 ⟨rfl, hb3⟩))
        have hbb3 := tr hba3 hb3 hba3.size
        have hX3 := hX2.bel hbb3
        have hr3 := hr2.bel hbb3
        have hB3 := tr hB2 hbb3 hB2.size
        clear d0 d1 zd hX2 hr2 hra3 hba3 hb3 hbb3 hB2
        have d0 := hX3.cell 0; have d1 := hX3.cell 1; simp only [List.getElem?_cons_zero, List.getElem?_cons_succ] at d0 d1
        have zd := hX3.lt
        go_upto_region 7 with (first
          | (go_at_call 18; refine (copy_c base A c l _ hr3 hl).mono ?_; rintro e wa4 ⟨⟨Aa4, qa4, rfl, hra4⟩, hba4⟩)
          | (go_at_call 19; refine (HPL.out Aa4 qa4 _ hra4).mono ?_; rintro e w4 ⟨rfl, hb4⟩))
        have hbb4 := tr hba4 hb4 hba4.size
        have hX4 := hX3.bel hbb4
        have hr4 := hr3.bel hbb4
        have hB4 := tr hB3 hbb4 hB3.size
        clear d0 d1 zd hX3 hr3 hra4 hba4 hb4 hbb4 hB3
        have d0 := hX4.cell 0; have d1 := hX4.cell 1; simp only [List.getElem?_cons_zero, List.getElem?_cons_succ] at d0 d1
        have zd := hX4.lt
        go_upto_region 8 with (first
          | (go_at_call 18; refine (copy_c base A c l _ hr4 hl).mono ?_; rintro e wa5 ⟨⟨Aa5, qa5, rfl, hra5⟩, hba5⟩)
          | (go_at_call 20; refine (HCR.out Aa5 qa5 _ hra5).mono ?_; rintro e w5 ⟨rfl, hb5⟩))
        have hbb5 := tr hba5 hb5 hba5.size
        have hX5 := hX4.bel hbb5
        have hr5 := hr4.bel hbb5
        have hB5 := tr hB4 hbb5 hB4.size
        clear d0 d1 zd hX4 hr4 hra5 hba5 hb5 hbb5 hB4
        have d0 := hX5.cell 0; have d1 := hX5.cell 1; simp only [List.getElem?_cons_zero, List.getElem?_cons_succ] at d0 d1
        have zd := hX5.lt
        go_upto_region 9 with (first
          | (go_at_call 18; refine (copy_c base A c l _ hr5 hl).mono ?_; rintro e wa6 ⟨⟨Aa6, qa6, rfl, hra6⟩, hba6⟩)
          | (go_at_call 21; refine (HCO.out Aa6 qa6 _ hra6).mono ?_; rintro e w6 ⟨rfl, hb6⟩))
        have hbb6 := tr hba6 hb6 hba6.size
        have hX6 := hX5.bel hbb6
        have hr6 := hr5.bel hbb6
        have hB6 := tr hB5 hbb6 hB5.size
        clear d0 d1 zd hX5 hr5 hra6 hba6 hb6 hbb6 hB5
        have d0 := hX6.cell 0; have d1 := hX6.cell 1; simp only [List.getElem?_cons_zero, List.getElem?_cons_succ] at d0 d1
        have zd := hX6.lt
        go_upto_region 10 with (first | (go_at_call 22; refine (HRC.out _ hr6).mono ?_; rintro e w7 ⟨rfl, hb7⟩))
        have hX7 := hX6.bel hb7
        have hr7 := hr6.bel hb7
        have hB7 := tr hB6 hb7 hB6.size
        clear d0 d1 zd hX6 hr6 hb7 hB6
        have d0 := hX7.cell 0; have d1 := hX7.cell 1; simp only [List.getElem?_cons_zero, List.getElem?_cons_succ] at d0 d1
        have zd := hX7.lt
        go_wp2_with (first
          | (go_at_call 23; refine (HWi.out _).mono ?_; rintro e_ w_ ⟨rfl, rfl⟩)
          | (go_at_call 25; refine (HCT.out _ hr7).mono ?_; rintro e w9 ⟨rfl, hb9⟩; have hr9 := hr7.bel hb9; have hX9 := hX7.bel hb9; have m0 := hX9.cell 0; have m1 := hX9.cell 1; simp only [List.getElem?_cons_zero, List.getElem?_cons_succ] at m0 m1; have z9 := hX9.lt)
          | (go_at_call 26; refine (HCN.out _ hr9).mono ?_; rintro e w10 ⟨rfl, hb10⟩))
        go_ret
        exact ⟨rfl, tr hB0 (tr (tr hB7 hb9 hB7.size) hb10 (by have := hB7.size; have := hb9.size; omega)) hB0.size⟩
    · have p1 : plasE base l h = (proE base l).2 := by unfold plasE; simp [firstE, h1]
      have p2 : plasR base l h = 0 := by unfold plasR; rw [p1, if_neg h1]
      rw [p1, p2] at HPL
      rw [show critR base l = (0, 0, (proE base l).2) by unfold critR; rw [if_neg h1]] at HCR
      rw [show contR base l = (0, (proE base l).2) by unfold contR; rw [if_neg h1]] at HCO
      have e1 : ((proE base l).2 != 0) = true := by simpa using h1
      clear h1 p1 p2 h14
      generalize (proE base l).2 = E at HPL HCR HCO HCK HRC e1
      generalize (proE base l).1 = I0 at HCK HRC
      dsimp only at HCR HCO
      go_enter Try.func3, Try.ntmps3
      go_upto_region 1 with fail
      rw [HW.out]
      go_upto_region 5 with (first
        | (go_at_call 15; refine (awake_c _).mono ?_; rintro e w1 ⟨rfl, hb1⟩; have hX1 := hX0.bel hb1; have k0 := hX1.cell 0; have k1 := hX1.cell 1; simp only [List.getElem?_cons_zero, List.getElem?_cons_succ] at k0 k1; have zk := hX1.lt)
        | (go_at_call 16; refine (HFew.out _).mono ?_; rintro e w2 ⟨rfl, hb2⟩))
      have hB2 := tr hb1 hb2 hb1.size
      have hX2 := hX1.bel hb2
      have hr2 := hr0.bel hB2
      clear c0 c1 z0 k0 k1 zk hX1 hb1 hb2 hX0 hr0
      have d0 := hX2.cell 0; have d1 := hX2.cell 1; simp only [List.getElem?_cons_zero, List.getElem?_cons_succ] at d0 d1
      have zd := hX2.lt
      go_upto_region 6 with (first
        | (go_at_call 18; refine (copy_c base A c l _ hr2 hl).mono ?_; rintro e wa3 ⟨⟨Aa3, qa3, rfl, hra3⟩, hba3⟩)
        | (go_at_call 17; refine (HCK.out Aa3 qa3 _ hra3).mono ?_; rintro e w3 ⟨rfl, hb3⟩))
      have hbb3 := tr hba3 hb3 hba3.size
      have hX3 := hX2.bel hbb3
      have hr3 := hr2.bel hbb3
      have hB3 := tr hB2 hbb3 hB2.size
      clear d0 d1 zd hX2 hr2 hra3 hba3 hb3 hbb3 hB2
      have d0 := hX3.cell 0; have d1 := hX3.cell 1; simp only [List.getElem?_cons_zero, List.getElem?_cons_succ] at d0 d1
      have zd := hX3.lt
      go_upto_region 7 with (first
        | (go_at_call 18; refine (copy_c base A c l _ hr3 hl).mono ?_; rintro e wa4 ⟨⟨Aa4, qa4, rfl, hra4⟩, hba4⟩)
        | (go_at_call 19; refine (HPL.out Aa4 qa4 _ hra4).mono ?_; rintro e w4 ⟨rfl, hb4⟩))
      have hbb4 := tr hba4 hb4 hba4.size
      have hX4 := hX3.bel hbb4
      have hr4 := hr3.bel hbb4
      have hB4 := tr hB3 hbb4 hB3.size
      clear d0 d1 zd hX3 hr3 hra4 hba4 hb4 hbb4 hB3
      have d0 := hX4.cell 0; have d1 := hX4.cell 1; simp only [List.getElem?_cons_zero, List.getElem?_cons_succ] at d0 d1
      have zd := hX4.lt
      go_upto_region 8 with (first
        | (go_at_call 18; refine (copy_c base A c l _ hr4 hl).mono ?_; rintro e wa5 ⟨⟨Aa5, qa5, rfl, hra5⟩, hba5⟩)
        | (go_at_call 20; refine (HCR.out Aa5 qa5 _ hra5).mono ?_; rintro e w5 ⟨rfl, hb5⟩))
      have hbb5 := tr hba5 hb5 hba5.size
      have hX5 := hX4.bel hbb5
      have hr5 := hr4.bel hbb5
      have hB5 := tr hB4 hbb5 hB4.size
      clear d0 d1 zd hX4 hr4 hra5 hba5 hb5 hbb5 hB4
      have d0 := hX5.cell 0; have d1 := hX5.cell 1; simp only [List.getElem?_cons_zero, List.getElem?_cons_succ] at d0 d1
      have zd := hX5.lt
      go_upto_region 9 with (first
        | (go_at_call 18; refine (copy_c base A c l _ hr5 hl).mono ?_; rintro e wa6 ⟨⟨Aa6, qa6, rfl, hra6⟩, hba6⟩)
        | (go_at_call 21; refine (HCO.out Aa6 qa6 _ hra6).mono ?_; rintro e w6 ⟨rfl, hb6⟩))
      have hbb6 := tr hba6 hb6 hba6.size
      have hX6 := hX5.bel hbb6
      have hr6 := hr5.bel hbb6
      have hB6 := tr hB5 hbb6 hB5.size
      clear d0 d1 zd hX5 hr5 hra6 hba6 hb6 hbb6 hB5
      have d0 := hX6.cell 0; have d1 := hX6.cell 1; simp only [List.getElem?_cons_zero, List.getElem?_cons_succ] at d0 d1
      have zd := hX6.lt
      go_wp2_with (first | (go_at_call 22; refine (HRC.out _ hr6).mono ?_; rintro e w7 ⟨rfl, hb7⟩))
      go_ret
      exact ⟨rfl, tr hB0 (tr hB6 hb7 hB6.size) hB0.size⟩
  · rw [decide_eq_false h14] at HFew
    clear hmx h14
    go_enter Try.func3, Try.ntmps3
    go_upto_region 1 with fail
    rw [HW.out]
    go_wp2_with (first
      | (go_at_call 15; refine (awake_c _).mono ?_; rintro e w1 ⟨rfl, hb1⟩; have hX1 := hX0.bel hb1; have k0 := hX1.cell 0; have k1 := hX1.cell 1; simp only [List.getElem?_cons_zero, List.getElem?_cons_succ] at k0 k1; have zk := hX1.lt)
      | (go_at_call 16; refine (HFew.out _).mono ?_; rintro e w2 ⟨rfl, hb2⟩))
    go_ret
    exact ⟨rfl, tr hB0 (tr hb1 hb2 hb1.size) hB0.size⟩
end Go.Proofs.Ytgnhkjfdicdcmaa
