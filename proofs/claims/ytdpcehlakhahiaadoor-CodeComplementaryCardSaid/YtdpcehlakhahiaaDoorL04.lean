/- The law CodeComplementary: the call returns true, and nothing that was there turns. Condition: the laid table. Written by tools/genl4.py. -/
import Derived.Test.YtdpcehlakhahiaaDoorP8
import Derived.Test.YtdpcehlakhahiaaDoorMG
namespace Go.Proofs.YtdpcehlakhahiaaDoor
open Go.RowKit
set_option maxRecDepth 100000

set_option maxHeartbeats 1000000 in
theorem compl_1 (a b : List Int) (A B : Option Addr) (c d : Nat) (w : World) (hT : Tab w) (hr : Rd w A (ints a)) (hs : Rd w B (ints b)) (h1 : 34 < a.length) :
    Calls Tryd.prog 4 #[.agg #[.slice A a.length c, .slice B b.length d]] w fun r w' => r = .returned (.bool true) ∧ Below w.heap.size w w' := by
  have da : decide ((a.length : Int) ≤ 34) = false := by simp; omega
  have _u := hr
  have _v := hs
  clear h1 hr hs _u _v
  go_enter Tryd.func4, Tryd.ntmps4
  go_wp2_with (first
    | (go_at_call 9; refine (awake_c _ (hT.bel (alloc_bel _ _))).mono ?_; rintro e w1 ⟨rfl, hb1⟩; have hX1 := (Blk.new w 24 [.slice A a.length c, .slice B b.length d]).bel hb1; have hW1 : Below w.heap.size w w1 := tr (alloc_bel _ _) hb1 (by simp); have hxl := hX1.lt; have c0 := hX1.cell 0; have c1 := hX1.cell 1; simp only [List.getElem?_cons_zero, List.getElem?_cons_succ] at c0 c1)
    | (go_at_call 10; refine (few_c _ _ _ _).mono ?_; rintro e_ w_ ⟨rfl, rfl⟩))
  go_ret
  exact ⟨rfl, hW1⟩

set_option maxHeartbeats 1000000 in
theorem compl_2 (a b : List Int) (A B : Option Addr) (c d : Nat) (w : World) (hT : Tab w) (hr : Rd w A (ints a)) (hs : Rd w B (ints b)) (h1 : a.length ≤ 34) (h2 : 34 < b.length) :
    Calls Tryd.prog 4 #[.agg #[.slice A a.length c, .slice B b.length d]] w fun r w' => r = .returned (.bool true) ∧ Below w.heap.size w w' := by
  have da : decide ((a.length : Int) ≤ 34) = true := by simp; omega
  have db : decide ((b.length : Int) ≤ 34) = false := by simp; omega
  have _u := hr
  have _v := hs
  clear h1 h2 hr hs _u _v
  go_enter Tryd.func4, Tryd.ntmps4
  go_wp2_with (first
    | (go_at_call 9; refine (awake_c _ (hT.bel (alloc_bel _ _))).mono ?_; rintro e w1 ⟨rfl, hb1⟩; have hX1 := (Blk.new w 24 [.slice A a.length c, .slice B b.length d]).bel hb1; have hW1 : Below w.heap.size w w1 := tr (alloc_bel _ _) hb1 (by simp); have hxl := hX1.lt; have c0 := hX1.cell 0; have c1 := hX1.cell 1; simp only [List.getElem?_cons_zero, List.getElem?_cons_succ] at c0 c1)
    | (go_at_call 10; refine (few_c _ _ _ _).mono ?_; rintro e_ w_ ⟨rfl, rfl⟩))
  go_ret
  exact ⟨rfl, hW1⟩

set_option maxHeartbeats 1000000 in
theorem compl_3 (a b : List Int) (A B : Option Addr) (c d : Nat) (w : World) (hT : Tab w) (hr : Rd w A (ints a)) (hs : Rd w B (ints b)) (h1 : a.length ≤ 34) (h2 : b.length ≤ 34) (h3 : (pairP a b).2 ≠ 0) :
    Calls Tryd.prog 4 #[.agg #[.slice A a.length c, .slice B b.length d]] w fun r w' => r = .returned (.bool true) ∧ Below w.heap.size w w' := by
  have da : decide ((a.length : Int) ≤ 34) = true := by simp; omega
  have db : decide ((b.length : Int) ≤ 34) = true := by simp; omega
  have HPE := hide (fun W h1 h2 => refPairErr_c a b A B c d W h1 h2 (by omega) (by omega))
  have e2 : ((pairP a b).2 != 0) = true := by simpa using h3
  clear h1 h2 h3
  generalize (pairP a b).2 = E at HPE e2
  go_enter Tryd.func4, Tryd.ntmps4
  go_wp2_with (first
    | (go_at_call 9; refine (awake_c _ (hT.bel (alloc_bel _ _))).mono ?_; rintro e w1 ⟨rfl, hb1⟩; have hX1 := (Blk.new w 24 [.slice A a.length c, .slice B b.length d]).bel hb1; have hW1 : Below w.heap.size w w1 := tr (alloc_bel _ _) hb1 (by simp); have hxl := hX1.lt; have c0 := hX1.cell 0; have c1 := hX1.cell 1; simp only [List.getElem?_cons_zero, List.getElem?_cons_succ] at c0 c1)
    | (go_at_call 10; refine (few_c _ _ _ _).mono ?_; rintro e_ w_ ⟨rfl, rfl⟩)
    | (go_at_call 19; refine (HPE.out _ (hr.bel hW1) (hs.bel hW1)).mono ?_; rintro e w2 ⟨rfl, hb2⟩; have hX2 := hX1.bel hb2; have hW2 := tr hW1 hb2 hW1.size))
  go_ret
  exact ⟨rfl, hW2⟩

set_option maxHeartbeats 1000000 in
theorem compl_4 (a b : List Int) (A B : Option Addr) (c d : Nat) (w : World) (hT : Tab w) (hr : Rd w A (ints a)) (hs : Rd w B (ints b)) (h1 : a.length ≤ 34) (h3 : (pairP a b).2 = 0) (h5 : 16 < a.length) :
    Calls Tryd.prog 4 #[.agg #[.slice A a.length c, .slice B b.length d]] w fun r w' => r = .returned (.bool true) ∧ Below w.heap.size w w' := by
  obtain ⟨q1, q2, q3, q4⟩ := pairP_parts h3
  have hp1 : 1 ≤ a.length := (codeE_zero q1).1
  have hp2 : 1 ≤ b.length := (codeE_zero q2).1
  have hl32 : a.length ≤ 32 := (codeE_zero q1).2.1
  have hb32 : b.length ≤ 32 := (codeE_zero q2).2.1
  have HSM := hide (small_of_code q2)
  have da : decide ((a.length : Int) ≤ 34) = true := by simp; omega
  have db : decide ((b.length : Int) ≤ 34) = true := by simp; omega
  have HPE := hide (fun W h1 h2 => refPairErr_c a b A B c d W h1 h2 (by omega) (by omega))
  rw [h3] at HPE
  have G1 := hide (good_swap q1 q2 q3 q4)
  have G2 := hide (good_rev q1 q2 q3 q4)
  have G3 := hide (good_neg q1 q2 q3 q4)
  have HSUM := hide (fun lag => corr_sum q1 q2 q3 q4 lag)
  have HCA := hide (fun (A1 A2 : Option Addr) (c1 c2 : Nat) (lag : Int) W h1 h2 (l1 : 1 - (a.length : Int) ≤ lag) (l2 : lag ≤ (a.length : Int) - 1) => show Calls Tryd.prog 21 #[.slice A1 a.length c1, .slice A2 a.length c2, .int .i64 lag] W fun r w' => r = .returned (.tuple #[.int .i64 (corr a a lag), .int .i64 0]) ∧ Below W.heap.size W w' from by
    have h := correlationAt_c a a A1 A2 c1 c2 lag W h1 h2 (by omega) (by omega)
    rw [corrE_good q1 l1 l2, if_pos rfl] at h
    exact h)
  have HCB := hide (fun (A1 A2 : Option Addr) (c1 c2 : Nat) (lag : Int) W h1 h2 (l1 : 1 - (a.length : Int) ≤ lag) (l2 : lag ≤ (a.length : Int) - 1) => show Calls Tryd.prog 21 #[.slice A1 b.length c1, .slice A2 b.length c2, .int .i64 lag] W fun r w' => r = .returned (.tuple #[.int .i64 (corr b b lag), .int .i64 0]) ∧ Below W.heap.size W w' from by
    have h := correlationAt_c b b A1 A2 c1 c2 lag W h1 h2 (by omega) (by omega)
    rw [corrE_good q2 (by omega) (by omega), if_pos rfl] at h
    exact h)
  have HAB := hide q3
  obtain ⟨i0, hi, iz0, iz1, iz2⟩ := info_parts Tryd.info3
  obtain ⟨j0, hj, jz0, jz1, jz2⟩ := info_parts Tryd.infoPair
  have HJ := hide (show Tryd.prog.info? 24 = some j0 ∧ j0.zero = some (.agg #[.slice none 0 0, .slice none 0 0]) ∧ j0.size = 2 ∧ j0.bytes = 48 from ⟨hj, jz0, jz1, jz2⟩)
  have HI := hide (show Tryd.prog.info? 3 = some i0 ∧ i0.zero = some (.int .i64 0) ∧ i0.size = 1 ∧ i0.bytes = 8 from ⟨hi, iz0, iz1, iz2⟩)
  clear q1 q2 q3 q4 h1 h3 hi iz0 iz1 iz2 hj jz0 jz1 jz2
  go_enter Tryd.func4, Tryd.ntmps4
  go_upto_region 5 with (first
    | (go_at_call 9; refine (awake_c _ (hT.bel (alloc_bel _ _))).mono ?_; rintro e w1 ⟨rfl, hb1⟩; have hX1 := (Blk.new w 24 [.slice A a.length c, .slice B b.length d]).bel hb1; have hW1 : Below w.heap.size w w1 := tr (alloc_bel _ _) hb1 (by simp); have hxl := hX1.lt; have c0 := hX1.cell 0; have c1 := hX1.cell 1; simp only [List.getElem?_cons_zero, List.getElem?_cons_succ] at c0 c1)
    | (go_at_call 10; refine (few_c _ _ _ _).mono ?_; rintro e_ w_ ⟨rfl, rfl⟩)
    | (go_at_call 19; refine (HPE.out _ (hr.bel hW1) (hs.bel hW1)).mono ?_; rintro e w2 ⟨rfl, hb2⟩; have hX2 := hX1.bel hb2; have hW2 := tr hW1 hb2 hW1.size))
  have x0 := hX2.cell 0
  have x1 := hX2.cell 1
  simp only [List.getElem?_cons_zero, List.getElem?_cons_succ] at x0 x1
  have hxV := hX2.lt
  have HX0 := hide (And.intro x0 x1)
  have HRA := hide (hr.bel hW2)
  have HRB := hide (hs.bel hW2)
  obtain ⟨V, hV⟩ : ∃ V, w2 = V := ⟨_, rfl⟩
  rw [hV] at x0 x1 HX0 hxV HRA HRB hW2 ⊢
  clear hV hb1 hb2 hX1 hX2 hW1 hxl c0 c1 HPE hr hs
  go_wp2
  go_loopw [4, 5] (fun v i wr => ∃ k m : Nat, k + m = a.length ∧ i = .int .i64 ((m : Int) - 1) ∧ Below V.heap.size V wr ∧ wr.ownsRow V.heap.size 3 1 v k (ints ((List.range k).map (fun i => a.getD (a.length - 1 - i) 0)))) (fun _ i _ => (intOf i + 1).toNat)
  case atStart => exact ⟨0, a.length, by omega, rfl, Below.refl _ _, World.ownsRow_nil _ _ _ _⟩
  case round =>
    obtain ⟨k, m, hkm, rfl, hbr, hown⟩ := hrel
    by_cases hm : 1 ≤ m
    · obtain ⟨m, rfl⟩ : ∃ j, m = j + 1 := ⟨m - 1, by omega⟩
      rw [show ((m + 1 : Nat) : Int) - 1 = (m : Int) by omega]
      have hmn : m < a.length := by omega
      obtain ⟨bA, oA, rfl, hbA, z0⟩ := (HRA.out.bel hbr).int_at hmn
      have HS : Hid (ints ((List.range (k + 1)).map (fun i => a.getD (a.length - 1 - i) 0)) = ints ((List.range k).map (fun i => a.getD (a.length - 1 - i) 0)) ++ [.int .i64 a[m]]) := by
        show _ = _
        have e : a.getD (a.length - 1 - k) 0 = a[m] := by
          rw [show a.length - 1 - k = m by omega]; simp [List.getD, hmn]
        rw [List.range_succ, List.map_append, ints_append]
        simp only [List.map_cons, List.map_nil, e]
        rfl
      have kr := (kp hbr).1
      have sr := hbr.size
      obtain ⟨hi, iz0, iz1, iz2⟩ := HI.out
      clear hm
      generalize a[m] = x at z0 HS
      go_wp2_with (first | (at_builtin; refine wpList_append_own _ rfl _ _ 22 rfl V.heap.size 3 i0 (.int .i64 0) 1 8 Tryd.underlying22 hi iz0 iz1 iz2 rfl (by decide) _ _ _ rfl (hown.alloc _) ⟨wr.heap.size, 0, none⟩ 1 1 [.int .i64 x] rfl rfl (cell_one_new _ _ _) (by simp [Value.oneCell']) (by unfold maxLen; omega) (by omega) (by simp; omega) ?_; intro v' w5 hown5 hg5 _))
      have hb5 : Below V.heap.size V w5 := (hbr.alloc hbr.size _).grown hg5 (by simp; omega) (fun j hj => (hown.lt j hj).1)
      go_roundw
      case rel => exact ⟨k + 1, m, by omega, by go_num, hb5, by rw [HS.out]; exact hown5⟩
      case measure => simp [intOf]
    · obtain rfl : m = 0 := by omega
      obtain rfl : k = a.length := by omega
      obtain ⟨gR, cR, rfl, hgR, hgR2⟩ := own_some hown hp1
      have hR := RdT.of_own hown
      rw [rev_range] at hR
      have kr := (kp hbr).1
      have sr := hbr.size
      have z0 := (kr w.heap.size 0 hxV).trans x0
      have z1 := (kr w.heap.size 1 hxV).trans x1
      have hxr : w.heap.size < wr.heap.size := Nat.lt_of_lt_of_le hxV sr
      clear hown kr x0 x1
      go_upto_region 11 with fail
      go_region_held3 (fun w' => (∀ b o, b < wr.heap.size → w'.cell? ⟨b, o, none⟩ = wr.cell? ⟨b, o, none⟩) ∧ Below wr.heap.size wr w')
        ((refine kp ?_; ((repeat' (first | with_reducible exact Below.refl _ _ | with_reducible exact HB5.out | with_reducible refine Below.drew ?_ | with_reducible refine bel_alloc ?_ ?_ _ | with_reducible refine Below.setCell ?_ ?_ _)); all_goals (first | omega | (simp <;> omega)))))
        (first
          | (go_at_call 20; refine (refOpposite_c b B d _ ((HRB.out.bel hbr).drew) HSM.out (by omega) (by omega)).mono ?_; rintro e w5 ⟨⟨gO, cO, rfl, hO, gO1, gO2⟩, hb5⟩; have HB5 : Hid (Below wr.heap.size wr w5) := (by refine bel_tr ?_ ?_ hb5; ((repeat' (first | with_reducible exact Below.refl _ _ | with_reducible refine Below.drew ?_ | with_reducible refine bel_alloc ?_ ?_ _ | with_reducible refine Below.setCell ?_ ?_ _)); all_goals (first | omega | (simp <;> omega)))); have s5 := HB5.out.size)
          )
      have hrW : Below wr.heap.size wr (w5.alloc (.cells #[.slice B b.length d, .slice A a.length c, .slice (some ⟨gR, 0, none⟩) a.length cR, .slice B b.length d, .slice A a.length c, .slice (some ⟨gO, 0, none⟩) b.length cO] 24)) := bel_alloc HB5.out s5 _
      have hbk : Blk (w5.alloc (.cells #[.slice B b.length d, .slice A a.length c, .slice (some ⟨gR, 0, none⟩) a.length cR, .slice B b.length d, .slice A a.length c, .slice (some ⟨gO, 0, none⟩) b.length cO] 24)) w5.heap.size 24 [.slice B b.length d, .slice A a.length c, .slice (some ⟨gR, 0, none⟩) a.length cR, .slice B b.length d, .slice A a.length c, .slice (some ⟨gO, 0, none⟩) b.length cO] := Blk.new w5 24 _
      have hRW := hR.bel hrW
      have hOW := hO.al (.cells #[.slice B b.length d, .slice A a.length c, .slice (some ⟨gR, 0, none⟩) a.length cR, .slice B b.length d, .slice A a.length c, .slice (some ⟨gO, 0, none⟩) b.length cO] 24)
      obtain ⟨W, hW⟩ : ∃ W, w5.alloc (.cells #[.slice B b.length d, .slice A a.length c, .slice (some ⟨gR, 0, none⟩) a.length cR, .slice B b.length d, .slice A a.length c, .slice (some ⟨gO, 0, none⟩) b.length cO] 24) = W := ⟨_, rfl⟩
      rw [hW] at hrW hbk hRW hOW ⊢
      obtain ⟨g, hg⟩ : ∃ g, w5.heap.size = g := ⟨_, rfl⟩
      rw [hg] at hbk ⊢
      have hVW := bel_tr hbr sr hrW
      have hgW := hbk.lt
      have z0 := (hrW.cell (p := ⟨w.heap.size, 0, none⟩) hxr).trans z0
      have z1 := (hrW.cell (p := ⟨w.heap.size, 1, none⟩) hxr).trans z1
      have hxW := Nat.lt_of_lt_of_le hxr hrW.size
      have HRAW := hide (HRA.out.bel hVW)
      have HRBW := hide (HRB.out.bel hVW)
      have HG : Hid (GoodAt W g 3) := fun k hk => by
        have hk3 : k = 0 ∨ k = 1 ∨ k = 2 := by omega
        rcases hk3 with rfl | rfl | rfl
        · exact ⟨B, A, b, a, d, c, hbk.cell 0, hbk.cell 1, HRBW.out, HRAW.out, G1.out⟩
        · exact ⟨_, B, a.reverse, b, cR, d, by rw [List.length_reverse]; exact hbk.cell 2, hbk.cell 3, hRW.1, HRBW.out, G2.out⟩
        · exact ⟨A, _, a, negL b, c, cO, hbk.cell 4, by rw [negL_length]; exact hbk.cell 5, HRAW.out, hOW.1, G3.out⟩
      go_wp2
      go_loopw [11] (fun i wk => ∃ k : Nat, k ≤ 3 ∧ i = .int .i64 k ∧ Below W.heap.size W wk) (fun i _ => 3 - (intOf i).toNat)
      case atStart => exact ⟨0, Nat.zero_le _, rfl, Below.refl _ _⟩
      case round =>
        obtain ⟨k, hk, rfl, hbk⟩ := hrel
        by_cases hlt : k < 3
        · obtain ⟨PA, PB, pa, pb, pc, pd, y0, y1, hPA, hPB, hGd, hl1, hl2⟩ := HG.out k hlt
          have y0 := (hbk.cell (p := ⟨g, _, none⟩) hgW).trans y0
          have y1 := (hbk.cell (p := ⟨g, _, none⟩) hgW).trans y1
          have HCP := hide (fun W h1 h2 => copyPair_c pa pb PA PB pc pd pa.length pb.length W rfl rfl h1 h2 hl1 hl2)
          have HCK := hide (fun (A B : Option Addr) (c d : Nat) W h1 h2 => checkPair_c pa pb A B c d W h1 h2 hl1 hl2)
          rw [hGd] at HCK
          clear hGd
          go_wp2_with (first
            | (go_at_call 12; refine (HCP.out _ (hPA.bel hbk) (hPB.bel hbk)).mono ?_; rintro e wa ⟨⟨A7, u7, B7, v7, rfl, hA7, hB7⟩, hba⟩)
            | (go_at_call 11; refine (HCK.out A7 B7 u7 v7 _ hA7.1 hB7.1).mono ?_; rintro e wb ⟨rfl, hbb⟩))
          go_roundw
          case rel => exact ⟨k + 1, by omega, by go_num, bel_tr (bel_tr hbk hbk.size hba) (bel_tr hbk hbk.size hba).size hbb⟩
          case measure => simp [intOf]; omega
        · obtain rfl : k = 3 := by omega
          have u0 := (hbk.cell (p := ⟨w.heap.size, 0, none⟩) hxW).trans z0
          have u1 := (hbk.cell (p := ⟨w.heap.size, 1, none⟩) hxW).trans z1
          have hxU := Nat.lt_of_lt_of_le hxW hbk.size
          have HRAU := hide (HRAW.out.bel hbk)
          have HRBU := hide (HRBW.out.bel hbk)
          have hVU := bel_tr hVW hVW.size hbk
          obtain ⟨U, hU⟩ : ∃ U, wr = U := ⟨_, rfl⟩
          rw [hU] at u0 u1 hxU HRAU HRBU hVU ⊢
          clear hU hbk
          go_wp2
          go_loopw [14] (fun t wq => ∃ j : Nat, j + 1 ≤ 2 * a.length ∧ t = .int .i64 (1 - (a.length : Int) + (j : Int)) ∧ Below U.heap.size U wq) (fun t _ => ((a.length : Int) - intOf t).toNat)
          case atStart => exact ⟨0, by omega, by simp, Below.refl _ _⟩
          case round =>
            obtain ⟨j, hj, rfl, hbq⟩ := hrel
            obtain ⟨wq, hwq⟩ : ∃ wq, wr = wq := ⟨_, rfl⟩
            rw [hwq] at hbq ⊢
            clear hwq
            have y0 := (hbq.cell (p := ⟨w.heap.size, 0, none⟩) hxU).trans u0
            have y1 := (hbq.cell (p := ⟨w.heap.size, 1, none⟩) hxU).trans u1
            have hxq := Nat.lt_of_lt_of_le hxU hbq.size
            obtain ⟨lag, hlag⟩ : ∃ lag, 1 - (a.length : Int) + (j : Int) = lag := ⟨_, rfl⟩
            rw [hlag]
            have HLJ := hide hlag
            by_cases hlt : lag < (a.length : Int)
            · have hlg1 : 1 - (a.length : Int) ≤ lag := by omega
              have hlg2 : lag ≤ (a.length : Int) - 1 := by omega
              clear hlag
              by_cases hz : lag = 0
              · have HKA := hide (fun W' (h : Below U.heap.size U W') => copyInts_c a A c W' (HRAU.out.bel h) (by omega))
                have HKB := hide (fun W' (h : Below U.heap.size U W') => copyInts_c b B d W' (HRBU.out.bel h) (by omega))
                have hsum := HSUM.out lag
                rw [if_pos hz] at hsum
                have hz0 : (lag == 0) = true := by simpa using hz
                have HCA := hide (fun A1 A2 c1 c2 W h1 h2 => HCA.out A1 A2 c1 c2 lag W h1 h2)
                have HCB := hide (fun A1 A2 c1 c2 W h1 h2 => HCB.out A1 A2 c1 c2 lag W h1 h2)
                generalize corr a a lag = ca at HCA hsum
                generalize corr b b lag = cb at HCB hsum
                have wr1 : IntKind.i64.wrap (ca + cb) = 2 * (a.length : Int) := by rw [hsum]; simp (disch := omega) only [IntWalk.i64_in]
                clear hz hsum
                go_upto_region 27 with fail
                go_cut [15, 16] from 142 to 152 (fun t1 t2 wx => t1 = .int .i64 ca ∧ t2 = .int .i64 0 ∧ Below wq.heap.size wq wx)
                case first =>
                  go_region_held3 (fun w' => (∀ b o, b < wq.heap.size → w'.cell? ⟨b, o, none⟩ = wq.cell? ⟨b, o, none⟩) ∧ Below wq.heap.size wq w')
                    ((refine kp ?_; ((repeat' (first | with_reducible exact Below.refl _ _ | with_reducible exact HBz.out | with_reducible exact HB2.out | with_reducible exact HB1.out | with_reducible refine Below.drew ?_ | with_reducible refine bel_alloc ?_ ?_ _ | with_reducible refine Below.setCell ?_ ?_ _)); all_goals (first | omega | (simp <;> omega)))))
                    (first
                      | (go_at_call 22; have _g := HB1; refine (HKA.out _ (bel_tr hbq hbq.size (by ((repeat' (first | with_reducible exact Below.refl _ _ | with_reducible exact HBz.out | with_reducible exact HB2.out | with_reducible exact HB1.out | with_reducible refine Below.drew ?_ | with_reducible refine bel_alloc ?_ ?_ _ | with_reducible refine Below.setCell ?_ ?_ _)); all_goals (first | omega | (simp <;> omega)))))).mono ?_; rintro e wc2 ⟨⟨C2, uC2, rfl, rC2⟩, hbC2⟩; have HB2 : Hid (Below wq.heap.size wq wc2) := (by refine bel_tr ?_ ?_ hbC2; ((repeat' (first | with_reducible exact Below.refl _ _ | with_reducible exact HBz.out | with_reducible exact HB2.out | with_reducible exact HB1.out | with_reducible refine Below.drew ?_ | with_reducible refine bel_alloc ?_ ?_ _ | with_reducible refine Below.setCell ?_ ?_ _)); all_goals (first | omega | (simp <;> omega)))); have sc2 := HB2.out.size)
                      | (go_at_call 22; refine (HKA.out _ (bel_tr hbq hbq.size (by ((repeat' (first | with_reducible exact Below.refl _ _ | with_reducible exact HBz.out | with_reducible exact HB2.out | with_reducible exact HB1.out | with_reducible refine Below.drew ?_ | with_reducible refine bel_alloc ?_ ?_ _ | with_reducible refine Below.setCell ?_ ?_ _)); all_goals (first | omega | (simp <;> omega)))))).mono ?_; rintro e wc1 ⟨⟨C1, uC1, rfl, rC1⟩, hbC1⟩; have HB1 : Hid (Below wq.heap.size wq wc1) := (by refine bel_tr ?_ ?_ hbC1; ((repeat' (first | with_reducible exact Below.refl _ _ | with_reducible exact HBz.out | with_reducible exact HB2.out | with_reducible exact HB1.out | with_reducible refine Below.drew ?_ | with_reducible refine bel_alloc ?_ ?_ _ | with_reducible refine Below.setCell ?_ ?_ _)); all_goals (first | omega | (simp <;> omega)))); have sc1 := HB1.out.size)
                      | (go_at_call 21; (with_reducible show Calls _ _ #[Value.slice C1 _ _, Value.slice C2 _ _, _] _ _); refine (HCA.out C1 C2 uC1 uC2 _ (rC1.bel (by ((repeat' (first | with_reducible exact Below.refl _ _ | with_reducible exact hbC2 | with_reducible refine Below.drew ?_)); all_goals omega))).1 (rC2.bel (by ((repeat' (first | with_reducible exact Below.refl _ _ | with_reducible exact hbC2 | with_reducible refine Below.drew ?_)); all_goals omega))).1 hlg1 hlg2).mono ?_; rintro e wz ⟨rfl, hbz⟩; have HBz : Hid (Below wq.heap.size wq wz) := (by refine bel_tr ?_ ?_ hbz; ((repeat' (first | with_reducible exact Below.refl _ _ | with_reducible exact HBz.out | with_reducible exact HB2.out | with_reducible exact HB1.out | with_reducible refine Below.drew ?_ | with_reducible refine bel_alloc ?_ ?_ _ | with_reducible refine Below.setCell ?_ ?_ _)); all_goals (first | omega | (simp <;> omega)))); have sz := HBz.out.size)
                      | (go_at_call 21; (with_reducible show Calls _ _ #[Value.slice C2 _ _, Value.slice C1 _ _, _] _ _); refine (HCA.out C2 C1 uC2 uC1 _ (rC2.bel (by ((repeat' (first | with_reducible exact Below.refl _ _ | with_reducible exact hbC2 | with_reducible refine Below.drew ?_)); all_goals omega))).1 (rC1.bel (by ((repeat' (first | with_reducible exact Below.refl _ _ | with_reducible exact hbC2 | with_reducible refine Below.drew ?_)); all_goals omega))).1 hlg1 hlg2).mono ?_; rintro e wz ⟨rfl, hbz⟩; have HBz : Hid (Below wq.heap.size wq wz) := (by refine bel_tr ?_ ?_ hbz; ((repeat' (first | with_reducible exact Below.refl _ _ | with_reducible exact HBz.out | with_reducible exact HB2.out | with_reducible exact HB1.out | with_reducible refine Below.drew ?_ | with_reducible refine bel_alloc ?_ ?_ _ | with_reducible refine Below.setCell ?_ ?_ _)); all_goals (first | omega | (simp <;> omega)))); have sz := HBz.out.size)
                      | fail "no arm")
                  all_goals
                    go_wp2
                    go_meet
                    refine ⟨rfl, rfl, ?_⟩
                    ((repeat' (first | with_reducible exact Below.refl _ _ | with_reducible exact HBz.out | with_reducible exact HB2.out | with_reducible exact HB1.out | with_reducible refine Below.drew ?_ | with_reducible refine bel_alloc ?_ ?_ _ | with_reducible refine Below.setCell ?_ ?_ _)); all_goals (first | omega | (simp <;> omega)))
                obtain ⟨rfl, rfl, hbx⟩ := hcut
                obtain ⟨Y, hY⟩ : ∃ Y, wc = Y := ⟨_, rfl⟩
                rw [hY] at hbx ⊢
                have y0 := (hbx.cell (p := ⟨w.heap.size, 0, none⟩) hxq).trans y0
                have y1 := (hbx.cell (p := ⟨w.heap.size, 1, none⟩) hxq).trans y1
                have hxY := Nat.lt_of_lt_of_le hxq hbx.size
                have hbqY := bel_tr hbq hbq.size hbx
                clear hY
                go_upto_region 28 with fail
                go_cut [17, 18] from 153 to 163 (fun t1 t2 wx => t1 = .int .i64 cb ∧ t2 = .int .i64 0 ∧ Below Y.heap.size Y wx)
                case first =>
                  go_region_held3 (fun w' => (∀ b o, b < Y.heap.size → w'.cell? ⟨b, o, none⟩ = Y.cell? ⟨b, o, none⟩) ∧ Below Y.heap.size Y w')
                    ((refine kp ?_; ((repeat' (first | with_reducible exact Below.refl _ _ | with_reducible exact HBz.out | with_reducible exact HB2.out | with_reducible exact HB1.out | with_reducible refine Below.drew ?_ | with_reducible refine bel_alloc ?_ ?_ _ | with_reducible refine Below.setCell ?_ ?_ _)); all_goals (first | omega | (simp <;> omega)))))
                    (first
                      | (go_at_call 22; have _g := HB1; refine (HKB.out _ (bel_tr hbqY hbqY.size (by ((repeat' (first | with_reducible exact Below.refl _ _ | with_reducible exact HBz.out | with_reducible exact HB2.out | with_reducible exact HB1.out | with_reducible refine Below.drew ?_ | with_reducible refine bel_alloc ?_ ?_ _ | with_reducible refine Below.setCell ?_ ?_ _)); all_goals (first | omega | (simp <;> omega)))))).mono ?_; rintro e wc2 ⟨⟨C2, uC2, rfl, rC2⟩, hbC2⟩; have HB2 : Hid (Below Y.heap.size Y wc2) := (by refine bel_tr ?_ ?_ hbC2; ((repeat' (first | with_reducible exact Below.refl _ _ | with_reducible exact HBz.out | with_reducible exact HB2.out | with_reducible exact HB1.out | with_reducible refine Below.drew ?_ | with_reducible refine bel_alloc ?_ ?_ _ | with_reducible refine Below.setCell ?_ ?_ _)); all_goals (first | omega | (simp <;> omega)))); have sc2 := HB2.out.size)
                      | (go_at_call 22; refine (HKB.out _ (bel_tr hbqY hbqY.size (by ((repeat' (first | with_reducible exact Below.refl _ _ | with_reducible exact HBz.out | with_reducible exact HB2.out | with_reducible exact HB1.out | with_reducible refine Below.drew ?_ | with_reducible refine bel_alloc ?_ ?_ _ | with_reducible refine Below.setCell ?_ ?_ _)); all_goals (first | omega | (simp <;> omega)))))).mono ?_; rintro e wc1 ⟨⟨C1, uC1, rfl, rC1⟩, hbC1⟩; have HB1 : Hid (Below Y.heap.size Y wc1) := (by refine bel_tr ?_ ?_ hbC1; ((repeat' (first | with_reducible exact Below.refl _ _ | with_reducible exact HBz.out | with_reducible exact HB2.out | with_reducible exact HB1.out | with_reducible refine Below.drew ?_ | with_reducible refine bel_alloc ?_ ?_ _ | with_reducible refine Below.setCell ?_ ?_ _)); all_goals (first | omega | (simp <;> omega)))); have sc1 := HB1.out.size)
                      | (go_at_call 21; (with_reducible show Calls _ _ #[Value.slice C1 _ _, Value.slice C2 _ _, _] _ _); refine (HCB.out C1 C2 uC1 uC2 _ (rC1.bel (by ((repeat' (first | with_reducible exact Below.refl _ _ | with_reducible exact hbC2 | with_reducible refine Below.drew ?_)); all_goals omega))).1 (rC2.bel (by ((repeat' (first | with_reducible exact Below.refl _ _ | with_reducible exact hbC2 | with_reducible refine Below.drew ?_)); all_goals omega))).1 hlg1 hlg2).mono ?_; rintro e wz ⟨rfl, hbz⟩; have HBz : Hid (Below Y.heap.size Y wz) := (by refine bel_tr ?_ ?_ hbz; ((repeat' (first | with_reducible exact Below.refl _ _ | with_reducible exact HBz.out | with_reducible exact HB2.out | with_reducible exact HB1.out | with_reducible refine Below.drew ?_ | with_reducible refine bel_alloc ?_ ?_ _ | with_reducible refine Below.setCell ?_ ?_ _)); all_goals (first | omega | (simp <;> omega)))); have sz := HBz.out.size)
                      | (go_at_call 21; (with_reducible show Calls _ _ #[Value.slice C2 _ _, Value.slice C1 _ _, _] _ _); refine (HCB.out C2 C1 uC2 uC1 _ (rC2.bel (by ((repeat' (first | with_reducible exact Below.refl _ _ | with_reducible exact hbC2 | with_reducible refine Below.drew ?_)); all_goals omega))).1 (rC1.bel (by ((repeat' (first | with_reducible exact Below.refl _ _ | with_reducible exact hbC2 | with_reducible refine Below.drew ?_)); all_goals omega))).1 hlg1 hlg2).mono ?_; rintro e wz ⟨rfl, hbz⟩; have HBz : Hid (Below Y.heap.size Y wz) := (by refine bel_tr ?_ ?_ hbz; ((repeat' (first | with_reducible exact Below.refl _ _ | with_reducible exact HBz.out | with_reducible exact HB2.out | with_reducible exact HB1.out | with_reducible refine Below.drew ?_ | with_reducible refine bel_alloc ?_ ?_ _ | with_reducible refine Below.setCell ?_ ?_ _)); all_goals (first | omega | (simp <;> omega)))); have sz := HBz.out.size)
                      | fail "no arm")
                  all_goals
                    go_wp2
                    go_meet
                    refine ⟨rfl, rfl, ?_⟩
                    ((repeat' (first | with_reducible exact Below.refl _ _ | with_reducible exact HBz.out | with_reducible exact HB2.out | with_reducible exact HB1.out | with_reducible refine Below.drew ?_ | with_reducible refine bel_alloc ?_ ?_ _ | with_reducible refine Below.setCell ?_ ?_ _)); all_goals (first | omega | (simp <;> omega)))
                obtain ⟨rfl, rfl, hbx2⟩ := hcut
                go_wp2
                go_roundw
                case rel => exact ⟨j + 1, by have := HLJ.out; omega, by have := HLJ.out; congr 1; omega, bel_tr hbqY hbqY.size hbx2⟩
                case measure => have := HLJ.out; simp [intOf]; omega
              · have HKA := hide (fun W' (h : Below U.heap.size U W') => copyInts_c a A c W' (HRAU.out.bel h) (by omega))
                have HKB := hide (fun W' (h : Below U.heap.size U W') => copyInts_c b B d W' (HRBU.out.bel h) (by omega))
                have hsum := HSUM.out lag
                rw [if_neg hz] at hsum
                have hz0 : (lag == 0) = false := by simpa using hz
                have HCA := hide (fun A1 A2 c1 c2 W h1 h2 => HCA.out A1 A2 c1 c2 lag W h1 h2)
                have HCB := hide (fun A1 A2 c1 c2 W h1 h2 => HCB.out A1 A2 c1 c2 lag W h1 h2)
                generalize corr a a lag = ca at HCA hsum
                generalize corr b b lag = cb at HCB hsum
                have wr1 : IntKind.i64.wrap (ca + cb) = 0 := by rw [hsum]; simp (disch := omega) only [IntWalk.i64_in]
                clear hz hsum
                go_upto_region 27 with fail
                go_cut [15, 16] from 142 to 152 (fun t1 t2 wx => t1 = .int .i64 ca ∧ t2 = .int .i64 0 ∧ Below wq.heap.size wq wx)
                case first =>
                  go_region_held3 (fun w' => (∀ b o, b < wq.heap.size → w'.cell? ⟨b, o, none⟩ = wq.cell? ⟨b, o, none⟩) ∧ Below wq.heap.size wq w')
                    ((refine kp ?_; ((repeat' (first | with_reducible exact Below.refl _ _ | with_reducible exact HBz.out | with_reducible exact HB2.out | with_reducible exact HB1.out | with_reducible refine Below.drew ?_ | with_reducible refine bel_alloc ?_ ?_ _ | with_reducible refine Below.setCell ?_ ?_ _)); all_goals (first | omega | (simp <;> omega)))))
                    (first
                      | (go_at_call 22; have _g := HB1; refine (HKA.out _ (bel_tr hbq hbq.size (by ((repeat' (first | with_reducible exact Below.refl _ _ | with_reducible exact HBz.out | with_reducible exact HB2.out | with_reducible exact HB1.out | with_reducible refine Below.drew ?_ | with_reducible refine bel_alloc ?_ ?_ _ | with_reducible refine Below.setCell ?_ ?_ _)); all_goals (first | omega | (simp <;> omega)))))).mono ?_; rintro e wc2 ⟨⟨C2, uC2, rfl, rC2⟩, hbC2⟩; have HB2 : Hid (Below wq.heap.size wq wc2) := (by refine bel_tr ?_ ?_ hbC2; ((repeat' (first | with_reducible exact Below.refl _ _ | with_reducible exact HBz.out | with_reducible exact HB2.out | with_reducible exact HB1.out | with_reducible refine Below.drew ?_ | with_reducible refine bel_alloc ?_ ?_ _ | with_reducible refine Below.setCell ?_ ?_ _)); all_goals (first | omega | (simp <;> omega)))); have sc2 := HB2.out.size)
                      | (go_at_call 22; refine (HKA.out _ (bel_tr hbq hbq.size (by ((repeat' (first | with_reducible exact Below.refl _ _ | with_reducible exact HBz.out | with_reducible exact HB2.out | with_reducible exact HB1.out | with_reducible refine Below.drew ?_ | with_reducible refine bel_alloc ?_ ?_ _ | with_reducible refine Below.setCell ?_ ?_ _)); all_goals (first | omega | (simp <;> omega)))))).mono ?_; rintro e wc1 ⟨⟨C1, uC1, rfl, rC1⟩, hbC1⟩; have HB1 : Hid (Below wq.heap.size wq wc1) := (by refine bel_tr ?_ ?_ hbC1; ((repeat' (first | with_reducible exact Below.refl _ _ | with_reducible exact HBz.out | with_reducible exact HB2.out | with_reducible exact HB1.out | with_reducible refine Below.drew ?_ | with_reducible refine bel_alloc ?_ ?_ _ | with_reducible refine Below.setCell ?_ ?_ _)); all_goals (first | omega | (simp <;> omega)))); have sc1 := HB1.out.size)
                      | (go_at_call 21; (with_reducible show Calls _ _ #[Value.slice C1 _ _, Value.slice C2 _ _, _] _ _); refine (HCA.out C1 C2 uC1 uC2 _ (rC1.bel (by ((repeat' (first | with_reducible exact Below.refl _ _ | with_reducible exact hbC2 | with_reducible refine Below.drew ?_)); all_goals omega))).1 (rC2.bel (by ((repeat' (first | with_reducible exact Below.refl _ _ | with_reducible exact hbC2 | with_reducible refine Below.drew ?_)); all_goals omega))).1 hlg1 hlg2).mono ?_; rintro e wz ⟨rfl, hbz⟩; have HBz : Hid (Below wq.heap.size wq wz) := (by refine bel_tr ?_ ?_ hbz; ((repeat' (first | with_reducible exact Below.refl _ _ | with_reducible exact HBz.out | with_reducible exact HB2.out | with_reducible exact HB1.out | with_reducible refine Below.drew ?_ | with_reducible refine bel_alloc ?_ ?_ _ | with_reducible refine Below.setCell ?_ ?_ _)); all_goals (first | omega | (simp <;> omega)))); have sz := HBz.out.size)
                      | (go_at_call 21; (with_reducible show Calls _ _ #[Value.slice C2 _ _, Value.slice C1 _ _, _] _ _); refine (HCA.out C2 C1 uC2 uC1 _ (rC2.bel (by ((repeat' (first | with_reducible exact Below.refl _ _ | with_reducible exact hbC2 | with_reducible refine Below.drew ?_)); all_goals omega))).1 (rC1.bel (by ((repeat' (first | with_reducible exact Below.refl _ _ | with_reducible exact hbC2 | with_reducible refine Below.drew ?_)); all_goals omega))).1 hlg1 hlg2).mono ?_; rintro e wz ⟨rfl, hbz⟩; have HBz : Hid (Below wq.heap.size wq wz) := (by refine bel_tr ?_ ?_ hbz; ((repeat' (first | with_reducible exact Below.refl _ _ | with_reducible exact HBz.out | with_reducible exact HB2.out | with_reducible exact HB1.out | with_reducible refine Below.drew ?_ | with_reducible refine bel_alloc ?_ ?_ _ | with_reducible refine Below.setCell ?_ ?_ _)); all_goals (first | omega | (simp <;> omega)))); have sz := HBz.out.size)
                      | fail "no arm")
                  all_goals
                    go_wp2
                    go_meet
                    refine ⟨rfl, rfl, ?_⟩
                    ((repeat' (first | with_reducible exact Below.refl _ _ | with_reducible exact HBz.out | with_reducible exact HB2.out | with_reducible exact HB1.out | with_reducible refine Below.drew ?_ | with_reducible refine bel_alloc ?_ ?_ _ | with_reducible refine Below.setCell ?_ ?_ _)); all_goals (first | omega | (simp <;> omega)))
                obtain ⟨rfl, rfl, hbx⟩ := hcut
                obtain ⟨Y, hY⟩ : ∃ Y, wc = Y := ⟨_, rfl⟩
                rw [hY] at hbx ⊢
                have y0 := (hbx.cell (p := ⟨w.heap.size, 0, none⟩) hxq).trans y0
                have y1 := (hbx.cell (p := ⟨w.heap.size, 1, none⟩) hxq).trans y1
                have hxY := Nat.lt_of_lt_of_le hxq hbx.size
                have hbqY := bel_tr hbq hbq.size hbx
                clear hY
                go_upto_region 28 with fail
                go_cut [17, 18] from 153 to 163 (fun t1 t2 wx => t1 = .int .i64 cb ∧ t2 = .int .i64 0 ∧ Below Y.heap.size Y wx)
                case first =>
                  go_region_held3 (fun w' => (∀ b o, b < Y.heap.size → w'.cell? ⟨b, o, none⟩ = Y.cell? ⟨b, o, none⟩) ∧ Below Y.heap.size Y w')
                    ((refine kp ?_; ((repeat' (first | with_reducible exact Below.refl _ _ | with_reducible exact HBz.out | with_reducible exact HB2.out | with_reducible exact HB1.out | with_reducible refine Below.drew ?_ | with_reducible refine bel_alloc ?_ ?_ _ | with_reducible refine Below.setCell ?_ ?_ _)); all_goals (first | omega | (simp <;> omega)))))
                    (first
                      | (go_at_call 22; have _g := HB1; refine (HKB.out _ (bel_tr hbqY hbqY.size (by ((repeat' (first | with_reducible exact Below.refl _ _ | with_reducible exact HBz.out | with_reducible exact HB2.out | with_reducible exact HB1.out | with_reducible refine Below.drew ?_ | with_reducible refine bel_alloc ?_ ?_ _ | with_reducible refine Below.setCell ?_ ?_ _)); all_goals (first | omega | (simp <;> omega)))))).mono ?_; rintro e wc2 ⟨⟨C2, uC2, rfl, rC2⟩, hbC2⟩; have HB2 : Hid (Below Y.heap.size Y wc2) := (by refine bel_tr ?_ ?_ hbC2; ((repeat' (first | with_reducible exact Below.refl _ _ | with_reducible exact HBz.out | with_reducible exact HB2.out | with_reducible exact HB1.out | with_reducible refine Below.drew ?_ | with_reducible refine bel_alloc ?_ ?_ _ | with_reducible refine Below.setCell ?_ ?_ _)); all_goals (first | omega | (simp <;> omega)))); have sc2 := HB2.out.size)
                      | (go_at_call 22; refine (HKB.out _ (bel_tr hbqY hbqY.size (by ((repeat' (first | with_reducible exact Below.refl _ _ | with_reducible exact HBz.out | with_reducible exact HB2.out | with_reducible exact HB1.out | with_reducible refine Below.drew ?_ | with_reducible refine bel_alloc ?_ ?_ _ | with_reducible refine Below.setCell ?_ ?_ _)); all_goals (first | omega | (simp <;> omega)))))).mono ?_; rintro e wc1 ⟨⟨C1, uC1, rfl, rC1⟩, hbC1⟩; have HB1 : Hid (Below Y.heap.size Y wc1) := (by refine bel_tr ?_ ?_ hbC1; ((repeat' (first | with_reducible exact Below.refl _ _ | with_reducible exact HBz.out | with_reducible exact HB2.out | with_reducible exact HB1.out | with_reducible refine Below.drew ?_ | with_reducible refine bel_alloc ?_ ?_ _ | with_reducible refine Below.setCell ?_ ?_ _)); all_goals (first | omega | (simp <;> omega)))); have sc1 := HB1.out.size)
                      | (go_at_call 21; (with_reducible show Calls _ _ #[Value.slice C1 _ _, Value.slice C2 _ _, _] _ _); refine (HCB.out C1 C2 uC1 uC2 _ (rC1.bel (by ((repeat' (first | with_reducible exact Below.refl _ _ | with_reducible exact hbC2 | with_reducible refine Below.drew ?_)); all_goals omega))).1 (rC2.bel (by ((repeat' (first | with_reducible exact Below.refl _ _ | with_reducible exact hbC2 | with_reducible refine Below.drew ?_)); all_goals omega))).1 hlg1 hlg2).mono ?_; rintro e wz ⟨rfl, hbz⟩; have HBz : Hid (Below Y.heap.size Y wz) := (by refine bel_tr ?_ ?_ hbz; ((repeat' (first | with_reducible exact Below.refl _ _ | with_reducible exact HBz.out | with_reducible exact HB2.out | with_reducible exact HB1.out | with_reducible refine Below.drew ?_ | with_reducible refine bel_alloc ?_ ?_ _ | with_reducible refine Below.setCell ?_ ?_ _)); all_goals (first | omega | (simp <;> omega)))); have sz := HBz.out.size)
                      | (go_at_call 21; (with_reducible show Calls _ _ #[Value.slice C2 _ _, Value.slice C1 _ _, _] _ _); refine (HCB.out C2 C1 uC2 uC1 _ (rC2.bel (by ((repeat' (first | with_reducible exact Below.refl _ _ | with_reducible exact hbC2 | with_reducible refine Below.drew ?_)); all_goals omega))).1 (rC1.bel (by ((repeat' (first | with_reducible exact Below.refl _ _ | with_reducible exact hbC2 | with_reducible refine Below.drew ?_)); all_goals omega))).1 hlg1 hlg2).mono ?_; rintro e wz ⟨rfl, hbz⟩; have HBz : Hid (Below Y.heap.size Y wz) := (by refine bel_tr ?_ ?_ hbz; ((repeat' (first | with_reducible exact Below.refl _ _ | with_reducible exact HBz.out | with_reducible exact HB2.out | with_reducible exact HB1.out | with_reducible refine Below.drew ?_ | with_reducible refine bel_alloc ?_ ?_ _ | with_reducible refine Below.setCell ?_ ?_ _)); all_goals (first | omega | (simp <;> omega)))); have sz := HBz.out.size)
                      | fail "no arm")
                  all_goals
                    go_wp2
                    go_meet
                    refine ⟨rfl, rfl, ?_⟩
                    ((repeat' (first | with_reducible exact Below.refl _ _ | with_reducible exact HBz.out | with_reducible exact HB2.out | with_reducible exact HB1.out | with_reducible refine Below.drew ?_ | with_reducible refine bel_alloc ?_ ?_ _ | with_reducible refine Below.setCell ?_ ?_ _)); all_goals (first | omega | (simp <;> omega)))
                obtain ⟨rfl, rfl, hbx2⟩ := hcut
                go_wp2
                go_roundw
                case rel => exact ⟨j + 1, by have := HLJ.out; omega, by have := HLJ.out; congr 1; omega, bel_tr hbqY hbqY.size hbx2⟩
                case measure => have := HLJ.out; simp [intOf]; omega
            · clear hlag
              go_wp2
              go_ret
              exact ⟨rfl, bel_tr hW2 hW2.size (bel_tr hVU hVU.size hbq)⟩


set_option maxHeartbeats 2000000 in
theorem compl_5 (a b : List Int) (A B : Option Addr) (c d : Nat) (w : World) (hT : Tab w) (hr : Rd w A (ints a)) (hs : Rd w B (ints b)) (h1 : a.length ≤ 34) (h3 : (pairP a b).2 = 0) (h5 : a.length ≤ 16) :
    Calls Tryd.prog 4 #[.agg #[.slice A a.length c, .slice B b.length d]] w fun r w' => r = .returned (.bool true) ∧ Below w.heap.size w w' := by
  obtain ⟨q1, q2, q3, q4⟩ := pairP_parts h3
  have hp1 : 1 ≤ a.length := (codeE_zero q1).1
  have hp2 : 1 ≤ b.length := (codeE_zero q2).1
  have hl32 : a.length ≤ 32 := (codeE_zero q1).2.1
  have hb32 : b.length ≤ 32 := (codeE_zero q2).2.1
  have HSM := hide (small_of_code q2)
  have da : decide ((a.length : Int) ≤ 34) = true := by simp; omega
  have db : decide ((b.length : Int) ≤ 34) = true := by simp; omega
  have HPE := hide (fun W h1 h2 => refPairErr_c a b A B c d W h1 h2 (by omega) (by omega))
  rw [h3] at HPE
  have G1 := hide (good_swap q1 q2 q3 q4)
  have G2 := hide (good_rev q1 q2 q3 q4)
  have G3 := hide (good_neg q1 q2 q3 q4)
  have HSUM := hide (fun lag => corr_sum q1 q2 q3 q4 lag)
  have HCA := hide (fun (A1 A2 : Option Addr) (c1 c2 : Nat) (lag : Int) W h1 h2 (l1 : 1 - (a.length : Int) ≤ lag) (l2 : lag ≤ (a.length : Int) - 1) => show Calls Tryd.prog 21 #[.slice A1 a.length c1, .slice A2 a.length c2, .int .i64 lag] W fun r w' => r = .returned (.tuple #[.int .i64 (corr a a lag), .int .i64 0]) ∧ Below W.heap.size W w' from by
    have h := correlationAt_c a a A1 A2 c1 c2 lag W h1 h2 (by omega) (by omega)
    rw [corrE_good q1 l1 l2, if_pos rfl] at h
    exact h)
  have HCB := hide (fun (A1 A2 : Option Addr) (c1 c2 : Nat) (lag : Int) W h1 h2 (l1 : 1 - (a.length : Int) ≤ lag) (l2 : lag ≤ (a.length : Int) - 1) => show Calls Tryd.prog 21 #[.slice A1 b.length c1, .slice A2 b.length c2, .int .i64 lag] W fun r w' => r = .returned (.tuple #[.int .i64 (corr b b lag), .int .i64 0]) ∧ Below W.heap.size W w' from by
    have h := correlationAt_c b b A1 A2 c1 c2 lag W h1 h2 (by omega) (by omega)
    rw [corrE_good q2 (by omega) (by omega), if_pos rfl] at h
    exact h)
  have h5' : 2 * a.length ≤ 32 := by omega
  have G4 := hide (good_doubled q1 q2 q3 q4 h5')
  have G5 := hide (good_turns q1 q2 q3 q4 h5')
  have hE : longE a b = 0 := by unfold longE firstE; rw [if_pos h3, decide_eq_false (by omega : ¬ (32 : Int) < 2 * (a.length : Int))]; rfl
  obtain ⟨N, hN⟩ : ∃ N, a.length + b.length = N := ⟨_, rfl⟩
  have hN2 : 2 * a.length = N := by omega
  have HD := hide (fun (A B : Option Addr) (c d : Nat) W h1 h2 => doubled_ok a b A B c d W h1 h2 (by omega) (by omega) hE)
  have HI5 := hide (fun (A B : Option Addr) (c d : Nat) W h1 h2 => interleaved_ok a b A B c d W h1 h2 (by omega) (by omega) hE)
  rw [hN] at HD
  rw [hN2] at HI5
  have eN : ((N : Int) != 2 * (a.length : Int)) = false := by simp; omega
  have HN := hide (And.intro hN hN2)
  have hN64 : N ≤ 64 := by omega
  clear hE h5' hN hN2
  have HAB := hide q3
  obtain ⟨i0, hi, iz0, iz1, iz2⟩ := info_parts Tryd.info3
  obtain ⟨j0, hj, jz0, jz1, jz2⟩ := info_parts Tryd.infoPair
  have HJ := hide (show Tryd.prog.info? 24 = some j0 ∧ j0.zero = some (.agg #[.slice none 0 0, .slice none 0 0]) ∧ j0.size = 2 ∧ j0.bytes = 48 from ⟨hj, jz0, jz1, jz2⟩)
  have HI := hide (show Tryd.prog.info? 3 = some i0 ∧ i0.zero = some (.int .i64 0) ∧ i0.size = 1 ∧ i0.bytes = 8 from ⟨hi, iz0, iz1, iz2⟩)
  clear q1 q2 q3 q4 h1 h3 hi iz0 iz1 iz2 hj jz0 jz1 jz2
  go_enter Tryd.func4, Tryd.ntmps4
  go_upto_region 5 with (first
    | (go_at_call 9; refine (awake_c _ (hT.bel (alloc_bel _ _))).mono ?_; rintro e w1 ⟨rfl, hb1⟩; have hX1 := (Blk.new w 24 [.slice A a.length c, .slice B b.length d]).bel hb1; have hW1 : Below w.heap.size w w1 := tr (alloc_bel _ _) hb1 (by simp); have hxl := hX1.lt; have c0 := hX1.cell 0; have c1 := hX1.cell 1; simp only [List.getElem?_cons_zero, List.getElem?_cons_succ] at c0 c1)
    | (go_at_call 10; refine (few_c _ _ _ _).mono ?_; rintro e_ w_ ⟨rfl, rfl⟩)
    | (go_at_call 19; refine (HPE.out _ (hr.bel hW1) (hs.bel hW1)).mono ?_; rintro e w2 ⟨rfl, hb2⟩; have hX2 := hX1.bel hb2; have hW2 := tr hW1 hb2 hW1.size))
  have x0 := hX2.cell 0
  have x1 := hX2.cell 1
  simp only [List.getElem?_cons_zero, List.getElem?_cons_succ] at x0 x1
  have hxV := hX2.lt
  have HX0 := hide (And.intro x0 x1)
  have HRA := hide (hr.bel hW2)
  have HRB := hide (hs.bel hW2)
  obtain ⟨V, hV⟩ : ∃ V, w2 = V := ⟨_, rfl⟩
  rw [hV] at x0 x1 HX0 hxV HRA HRB hW2 ⊢
  clear hV hb1 hb2 hX1 hX2 hW1 hxl c0 c1 HPE hr hs
  go_wp2
  go_loopw [4, 5] (fun v i wr => ∃ k m : Nat, k + m = a.length ∧ i = .int .i64 ((m : Int) - 1) ∧ Below V.heap.size V wr ∧ wr.ownsRow V.heap.size 3 1 v k (ints ((List.range k).map (fun i => a.getD (a.length - 1 - i) 0)))) (fun _ i _ => (intOf i + 1).toNat)
  case atStart => exact ⟨0, a.length, by omega, rfl, Below.refl _ _, World.ownsRow_nil _ _ _ _⟩
  case round =>
    obtain ⟨k, m, hkm, rfl, hbr, hown⟩ := hrel
    by_cases hm : 1 ≤ m
    · obtain ⟨m, rfl⟩ : ∃ j, m = j + 1 := ⟨m - 1, by omega⟩
      rw [show ((m + 1 : Nat) : Int) - 1 = (m : Int) by omega]
      have hmn : m < a.length := by omega
      obtain ⟨bA, oA, rfl, hbA, z0⟩ := (HRA.out.bel hbr).int_at hmn
      have HS : Hid (ints ((List.range (k + 1)).map (fun i => a.getD (a.length - 1 - i) 0)) = ints ((List.range k).map (fun i => a.getD (a.length - 1 - i) 0)) ++ [.int .i64 a[m]]) := by
        show _ = _
        have e : a.getD (a.length - 1 - k) 0 = a[m] := by
          rw [show a.length - 1 - k = m by omega]; simp [List.getD, hmn]
        rw [List.range_succ, List.map_append, ints_append]
        simp only [List.map_cons, List.map_nil, e]
        rfl
      have kr := (kp hbr).1
      have sr := hbr.size
      obtain ⟨hi, iz0, iz1, iz2⟩ := HI.out
      clear hm
      generalize a[m] = x at z0 HS
      go_wp2_with (first | (at_builtin; refine wpList_append_own _ rfl _ _ 22 rfl V.heap.size 3 i0 (.int .i64 0) 1 8 Tryd.underlying22 hi iz0 iz1 iz2 rfl (by decide) _ _ _ rfl (hown.alloc _) ⟨wr.heap.size, 0, none⟩ 1 1 [.int .i64 x] rfl rfl (cell_one_new _ _ _) (by simp [Value.oneCell']) (by unfold maxLen; omega) (by omega) (by simp; omega) ?_; intro v' w5 hown5 hg5 _))
      have hb5 : Below V.heap.size V w5 := (hbr.alloc hbr.size _).grown hg5 (by simp; omega) (fun j hj => (hown.lt j hj).1)
      go_roundw
      case rel => exact ⟨k + 1, m, by omega, by go_num, hb5, by rw [HS.out]; exact hown5⟩
      case measure => simp [intOf]
    · obtain rfl : m = 0 := by omega
      obtain rfl : k = a.length := by omega
      obtain ⟨gR, cR, rfl, hgR, hgR2⟩ := own_some hown hp1
      have hR := RdT.of_own hown
      rw [rev_range] at hR
      have kr := (kp hbr).1
      have sr := hbr.size
      have z0 := (kr w.heap.size 0 hxV).trans x0
      have z1 := (kr w.heap.size 1 hxV).trans x1
      have hxr : w.heap.size < wr.heap.size := Nat.lt_of_lt_of_le hxV sr
      clear hown kr x0 x1
      go_upto_region 11 with fail
      go_region_held3 (fun w' => (∀ b o, b < wr.heap.size → w'.cell? ⟨b, o, none⟩ = wr.cell? ⟨b, o, none⟩) ∧ Below wr.heap.size wr w')
        ((refine kp ?_; ((repeat' (first | with_reducible exact Below.refl _ _ | with_reducible exact HB5.out | with_reducible refine Below.drew ?_ | with_reducible refine bel_alloc ?_ ?_ _ | with_reducible refine Below.setCell ?_ ?_ _)); all_goals (first | omega | (simp <;> omega)))))
        (first
          | (go_at_call 20; refine (refOpposite_c b B d _ ((HRB.out.bel hbr).drew) HSM.out (by omega) (by omega)).mono ?_; rintro e w5 ⟨⟨gO, cO, rfl, hO, gO1, gO2⟩, hb5⟩; have HB5 : Hid (Below wr.heap.size wr w5) := (by refine bel_tr ?_ ?_ hb5; ((repeat' (first | with_reducible exact Below.refl _ _ | with_reducible refine Below.drew ?_ | with_reducible refine bel_alloc ?_ ?_ _ | with_reducible refine Below.setCell ?_ ?_ _)); all_goals (first | omega | (simp <;> omega)))); have s5 := HB5.out.size)
          )
      have hrW : Below wr.heap.size wr (w5.alloc (.cells #[.slice B b.length d, .slice A a.length c, .slice (some ⟨gR, 0, none⟩) a.length cR, .slice B b.length d, .slice A a.length c, .slice (some ⟨gO, 0, none⟩) b.length cO] 24)) := bel_alloc HB5.out s5 _
      have hbk : Blk (w5.alloc (.cells #[.slice B b.length d, .slice A a.length c, .slice (some ⟨gR, 0, none⟩) a.length cR, .slice B b.length d, .slice A a.length c, .slice (some ⟨gO, 0, none⟩) b.length cO] 24)) w5.heap.size 24 [.slice B b.length d, .slice A a.length c, .slice (some ⟨gR, 0, none⟩) a.length cR, .slice B b.length d, .slice A a.length c, .slice (some ⟨gO, 0, none⟩) b.length cO] := Blk.new w5 24 _
      have hRW := hR.bel hrW
      have hOW := hO.al (.cells #[.slice B b.length d, .slice A a.length c, .slice (some ⟨gR, 0, none⟩) a.length cR, .slice B b.length d, .slice A a.length c, .slice (some ⟨gO, 0, none⟩) b.length cO] 24)
      obtain ⟨W, hW⟩ : ∃ W, w5.alloc (.cells #[.slice B b.length d, .slice A a.length c, .slice (some ⟨gR, 0, none⟩) a.length cR, .slice B b.length d, .slice A a.length c, .slice (some ⟨gO, 0, none⟩) b.length cO] 24) = W := ⟨_, rfl⟩
      rw [hW] at hrW hbk hRW hOW ⊢
      obtain ⟨g, hg⟩ : ∃ g, w5.heap.size = g := ⟨_, rfl⟩
      rw [hg] at hbk ⊢
      have hVW := bel_tr hbr sr hrW
      have hgW := hbk.lt
      have z0 := (hrW.cell (p := ⟨w.heap.size, 0, none⟩) hxr).trans z0
      have z1 := (hrW.cell (p := ⟨w.heap.size, 1, none⟩) hxr).trans z1
      have hxW := Nat.lt_of_lt_of_le hxr hrW.size
      have HRAW := hide (HRA.out.bel hVW)
      have HRBW := hide (HRB.out.bel hVW)
      have HG : Hid (GoodAt W g 3) := fun k hk => by
        have hk3 : k = 0 ∨ k = 1 ∨ k = 2 := by omega
        rcases hk3 with rfl | rfl | rfl
        · exact ⟨B, A, b, a, d, c, hbk.cell 0, hbk.cell 1, HRBW.out, HRAW.out, G1.out⟩
        · exact ⟨_, B, a.reverse, b, cR, d, by rw [List.length_reverse]; exact hbk.cell 2, hbk.cell 3, hRW.1, HRBW.out, G2.out⟩
        · exact ⟨A, _, a, negL b, c, cO, hbk.cell 4, by rw [negL_length]; exact hbk.cell 5, HRAW.out, hOW.1, G3.out⟩
      have HCP := hide (fun W' (h : Below W.heap.size W W') => copyPair_c a b A B c d a.length b.length W' rfl rfl (HRAW.out.bel h) (HRBW.out.bel h) (by omega) (by omega))
      have e16 : decide (2 * (a.length : Int) ≤ 32) = true := by simp; omega
      have HW5 : Hid (Below w5.heap.size w5 W) := by show Below _ _ _; rw [← hW]; exact alloc_bel _ _
      clear hW
      go_upto_region 17 with (first
           | (go_at_call 14; refine (HI5.out A8 B8 u8 v8 _ hA8.1 hC8.1).mono ?_; rintro e w9 ⟨⟨U9, V9, cu9, cv9, rfl, hU9, hV9⟩, hb9⟩; have hB9 := bel_tr hB8 hB8.size hb9; have k9 := (kp hB9).1; have s9 := hB9.size; have t9 := Nat.lt_of_lt_of_le hxW s9; have hD9 := ((Blk.new w7 24 [.slice U7 N cu7, .slice V7 N cv7]).bel hb8).bel hb9; have l9 := hD9.lt; have d0 := hD9.cell 0; have d1 := hD9.cell 1; simp only [List.getElem?_cons_zero, List.getElem?_cons_succ] at d0 d1)
           | (go_at_call 12; have _g := hB7; refine (HCP.out _ (bel_alloc hB7 hB7.size _)).mono ?_; rintro e w8 ⟨⟨A8, u8, B8, v8, rfl, hA8, hC8⟩, hb8⟩; have hB8 := bel_tr (bel_alloc hB7 hB7.size _) ((bel_alloc hB7 hB7.size _)).size hb8; have k8 := (kp hB8).1; have s8 := hB8.size; have t8 := Nat.lt_of_lt_of_le hxW s8)
           | (go_at_call 13; refine (HD.out A6 B6 u6 v6 _ hA6.1 hC6.1).mono ?_; rintro e w7 ⟨⟨U7, V7, cu7, cv7, rfl, hU7, hV7⟩, hb7⟩; have hB7 := bel_tr hB6 hB6.size hb7; have k7 := (kp hB7).1; have s7 := hB7.size; have t7 := Nat.lt_of_lt_of_le hxW s7)
           | (go_at_call 12; refine (HCP.out _ (Below.refl W.heap.size W)).mono ?_; rintro e w6 ⟨⟨A6, u6, B6, v6, rfl, hA6, hC6⟩, hb6⟩; have hB6 := bel_tr (Below.refl W.heap.size W) ((Below.refl W.heap.size W)).size hb6; have k6 := (kp hB6).1; have s6 := hB6.size; have t6 := Nat.lt_of_lt_of_le hxW s6))
      obtain ⟨X, hX⟩ : ∃ X, w9.alloc (.cells #[.slice U9 N cu9, .slice V9 N cv9] 24) = X := ⟨_, rfl⟩
      have hb9X := alloc_bel w9 (.cells #[.slice U9 N cu9, .slice V9 N cv9] 24)
      have hIX := Blk.new w9 24 [.slice U9 N cu9, .slice V9 N cv9]
      have hDX := hD9.bel hb9X
      have hb7D := alloc_bel w7 (.cells #[.slice U7 N cu7, .slice V7 N cv7] 24)
      have hU7X := (((hU7.bel hb7D).bel hb8).bel hb9).bel hb9X
      have hV7X := (((hV7.bel hb7D).bel hb8).bel hb9).bel hb9X
      have hU9X := hU9.bel hb9X
      have hV9X := hV9.bel hb9X
      have hWX := bel_tr hB9 hB9.size hb9X
      rw [hX] at hIX hDX hU7X hV7X hU9X hV9X hWX hb9X ⊢
      clear hX d0 d1 hD9 hb7D hb8 hb9 hb9X hB6 hB7 hB8 hB9 k6 k7 k8 k9 hA6 hC6 hA8 hC8 hU7 hV7 hU9 hV9
      have sX := hWX.size
      have hgn7 : w7.heap.size ≠ g := by omega
      have hgn9 : w9.heap.size ≠ g := by omega
      have hgX : g < X.heap.size := by omega
      have hl7 := hDX.lt
      have hl9 := hIX.lt
      have d0 := hDX.cell 0; have d1 := hDX.cell 1; simp only [List.getElem?_cons_zero, List.getElem?_cons_succ] at d0 d1
      have f0 := hIX.cell 0; have f1 := hIX.cell 1; simp only [List.getElem?_cons_zero, List.getElem?_cons_succ] at f0 f1
      have HWX := hide (bel_tr HW5.out HW5.out.size hWX)
      have hownX := own_of_blk (n := 3) (size := 2) (hbk.bel hWX) rfl (by unfold maxLen; omega)
      have HPD := hide (fun W' h1 h2 => copyPair_c (a ++ b) (a ++ negL b) U7 V7 cu7 cv7 N N W' (by have := HN.out; simp; omega) (by have := HN.out; simp; omega) h1 h2 (by omega) (by omega))
      have HPI := hide (fun W' h1 h2 => copyPair_c (turnsTo a b a.length) (turnsTo a (negL b) a.length) U9 V9 cu9 cv9 N N W' (by have := HN.out; simp; omega) (by have := HN.out; simp; omega) h1 h2 (by omega) (by omega))
      obtain ⟨hj, jz0, jz1, jz2⟩ := HJ.out
      go_cut [6] from 107 to 113 (fun t6 wx => ∃ gv cv : Nat, t6 = .slice (some ⟨gv, 0, none⟩) 5 cv ∧ Below w5.heap.size w5 wx ∧ gv < wx.heap.size ∧ GoodAt wx gv 5)
      case first =>
        go_region_held3 (fun w' => ∀ b o, b ≠ g → b < X.heap.size → w'.cell? ⟨b, o, none⟩ = X.cell? ⟨b, o, none⟩)
          ((refine KG.cells ?_; ((repeat' (first | with_reducible exact KG.refl _ _ | with_reducible exact HKv.out | with_reducible exact HKi.out | with_reducible exact HKd.out | with_reducible refine KG.drew ?_ | with_reducible refine KG.alloc ?_ _)); all_goals (first | omega | (simp <;> omega)))))
          (first
            | (go_at_call 12; (with_reducible show Calls _ _ #[Value.agg #[Value.slice U7 _ _, Value.slice V7 _ _]] _ _); refine (HPD.out _ (hU7X.bel (by ((repeat' (first | with_reducible exact Below.refl _ _ | with_reducible exact HXi.out | with_reducible exact HXd.out | with_reducible refine Below.drew ?_ | with_reducible refine bel_alloc ?_ ?_ _)); all_goals (first | omega | (simp <;> omega))))).1 (hV7X.bel (by ((repeat' (first | with_reducible exact Below.refl _ _ | with_reducible exact HXi.out | with_reducible exact HXd.out | with_reducible refine Below.drew ?_ | with_reducible refine bel_alloc ?_ ?_ _)); all_goals (first | omega | (simp <;> omega))))).1).mono ?_; rintro e wd ⟨⟨A10, u10, B10, v10, rfl, hA10, hC10⟩, hbd⟩; have HXd : Hid (Below X.heap.size X wd) := (by refine bel_tr ?_ ?_ hbd; ((repeat' (first | with_reducible exact Below.refl _ _ | with_reducible exact HXi.out | with_reducible exact HXd.out | with_reducible refine Below.drew ?_ | with_reducible refine bel_alloc ?_ ?_ _)); all_goals (first | omega | (simp <;> omega)))); have HBd : Hid (Below w5.heap.size w5 wd) := (by refine bel_tr ?_ ?_ hbd; ((repeat' (first | with_reducible exact HWX.out | with_reducible exact HBv.out | with_reducible exact HBi.out | with_reducible exact HBd.out | with_reducible refine Below.drew ?_ | with_reducible refine bel_alloc ?_ ?_ _)); all_goals (first | omega | (simp <;> omega)))); have HKd : Hid (KG X g wd) := (by refine KG.bel ?_ hbd; ((repeat' (first | with_reducible exact KG.refl _ _ | with_reducible exact HKv.out | with_reducible exact HKi.out | with_reducible exact HKd.out | with_reducible refine KG.drew ?_ | with_reducible refine KG.alloc ?_ _)); all_goals (first | omega | (simp <;> omega)))); have sd := HXd.out.size)
            | (go_at_call 12; (with_reducible show Calls _ _ #[Value.agg #[Value.slice U9 _ _, Value.slice V9 _ _]] _ _); refine (HPI.out _ (hU9X.bel (by ((repeat' (first | with_reducible exact Below.refl _ _ | with_reducible exact HXi.out | with_reducible exact HXd.out | with_reducible refine Below.drew ?_ | with_reducible refine bel_alloc ?_ ?_ _)); all_goals (first | omega | (simp <;> omega))))).1 (hV9X.bel (by ((repeat' (first | with_reducible exact Below.refl _ _ | with_reducible exact HXi.out | with_reducible exact HXd.out | with_reducible refine Below.drew ?_ | with_reducible refine bel_alloc ?_ ?_ _)); all_goals (first | omega | (simp <;> omega))))).1).mono ?_; rintro e wi ⟨⟨A11, u11, B11, v11, rfl, hA11, hC11⟩, hbi⟩; have HXi : Hid (Below X.heap.size X wi) := (by refine bel_tr ?_ ?_ hbi; ((repeat' (first | with_reducible exact Below.refl _ _ | with_reducible exact HXi.out | with_reducible exact HXd.out | with_reducible refine Below.drew ?_ | with_reducible refine bel_alloc ?_ ?_ _)); all_goals (first | omega | (simp <;> omega)))); have HBi : Hid (Below w5.heap.size w5 wi) := (by refine bel_tr ?_ ?_ hbi; ((repeat' (first | with_reducible exact HWX.out | with_reducible exact HBv.out | with_reducible exact HBi.out | with_reducible exact HBd.out | with_reducible refine Below.drew ?_ | with_reducible refine bel_alloc ?_ ?_ _)); all_goals (first | omega | (simp <;> omega)))); have HKi : Hid (KG X g wi) := (by refine KG.bel ?_ hbi; ((repeat' (first | with_reducible exact KG.refl _ _ | with_reducible exact HKv.out | with_reducible exact HKi.out | with_reducible exact HKd.out | with_reducible refine KG.drew ?_ | with_reducible refine KG.alloc ?_ _)); all_goals (first | omega | (simp <;> omega)))); have si := HXi.out.size)
            | (refine step_append_lies _ (by rfl) _ _ _ (by rfl) g 24 j0 _ 2 48 Tryd.underlying39 hj jz0 jz1 jz2 rfl (by decide) (.slice (some ⟨g, 0, none⟩) 3 3) 3 [.slice B b.length d, .slice A a.length c, .slice (some ⟨gR, 0, none⟩) a.length cR, .slice B b.length d, .slice A a.length c, .slice (some ⟨gO, 0, none⟩) b.length cO] (by rfl) (show World.ownsRow _ g 24 2 (.slice (some ⟨g, 0, none⟩) 3 3) 3 [.slice B b.length d, .slice A a.length c, .slice (some ⟨gR, 0, none⟩) a.length cR, .slice B b.length d, .slice A a.length c, .slice (some ⟨gO, 0, none⟩) b.length cO] from (by ((repeat' (first | with_reducible exact hownX | with_reducible refine World.ownsRow.drew ?_ | with_reducible refine World.ownsRow.alloc ?_ _ | with_reducible refine ownsRow_bel ?_ hbi | with_reducible refine ownsRow_bel ?_ hbd)) <;> fail))) ⟨_, 0, none⟩ 2 2 [.slice A10 N u10, .slice B10 N v10, .slice A11 N u11, .slice B11 N v11] (by rfl) rfl (World.news_of_block (Blk.new _ 24 [.slice A10 N u10, .slice B10 N v10, .slice A11 N u11, .slice B11 N v11])) (by simp [Value.oneCell']) (by decide) (by unfold maxLen; omega) (by omega) (by first | omega | (simp; omega)) _ rfl ?_; intro gv cv wv hv hgv' hatv' hltv; have hkt : KeepT 3 _ wv := ownKeep (show World.ownsRow _ g 24 2 (.slice (some ⟨g, 0, none⟩) 3 3) 3 [.slice B b.length d, .slice A a.length c, .slice (some ⟨gR, 0, none⟩) a.length cR, .slice B b.length d, .slice A a.length c, .slice (some ⟨gO, 0, none⟩) b.length cO] from (by ((repeat' (first | with_reducible exact hownX | with_reducible refine World.ownsRow.drew ?_ | with_reducible refine World.ownsRow.alloc ?_ _ | with_reducible refine ownsRow_bel ?_ hbi | with_reducible refine ownsRow_bel ?_ hbd)) <;> fail))) hgv' (by decide); have hgv : World.grownBy _ wv (some g) := hgv'; clear hatv'; have HBv : Hid (Below w5.heap.size w5 wv) := (by refine Below.grown ?_ hgv ?_ (fun j hj => by injection hj with hj; omega); ((repeat' (first | with_reducible exact HWX.out | with_reducible exact HBv.out | with_reducible exact HBi.out | with_reducible exact HBd.out | with_reducible refine Below.drew ?_ | with_reducible refine bel_alloc ?_ ?_ _)); all_goals (first | omega | (simp <;> omega)))); have HKv : Hid (KG X g wv) := (by refine KG.grown ?_ hgv; ((repeat' (first | with_reducible exact KG.refl _ _ | with_reducible exact HKv.out | with_reducible exact HKi.out | with_reducible exact HKd.out | with_reducible refine KG.drew ?_ | with_reducible refine KG.alloc ?_ _)); all_goals (first | omega | (simp <;> omega)))); have sv := hgv.size; have hqd : RdT wv 3 A10 (ints (a ++ b)) := RdT.keep (show RdT _ 3 A10 (ints (a ++ b)) from (by ((repeat' (first | with_reducible exact hA10 | with_reducible refine RdT.dr ?_ | with_reducible refine RdT.al ?_ _ | with_reducible refine RdT.bel ?_ hbi | with_reducible refine RdT.bel ?_ hbd)) <;> fail))) hkt; have hqe : RdT wv 3 B10 (ints (a ++ negL b)) := RdT.keep (show RdT _ 3 B10 (ints (a ++ negL b)) from (by ((repeat' (first | with_reducible exact hC10 | with_reducible refine RdT.dr ?_ | with_reducible refine RdT.al ?_ _ | with_reducible refine RdT.bel ?_ hbi | with_reducible refine RdT.bel ?_ hbd)) <;> fail))) hkt; have hqf : RdT wv 3 A11 (ints (turnsTo a b a.length)) := RdT.keep (show RdT _ 3 A11 (ints (turnsTo a b a.length)) from (by ((repeat' (first | with_reducible exact hA11 | with_reducible refine RdT.dr ?_ | with_reducible refine RdT.al ?_ _ | with_reducible refine RdT.bel ?_ hbi | with_reducible refine RdT.bel ?_ hbd)) <;> fail))) hkt; have hqg : RdT wv 3 B11 (ints (turnsTo a (negL b) a.length)) := RdT.keep (show RdT _ 3 B11 (ints (turnsTo a (negL b) a.length)) from (by ((repeat' (first | with_reducible exact hC11 | with_reducible refine RdT.dr ?_ | with_reducible refine RdT.al ?_ _ | with_reducible refine RdT.bel ?_ hbi | with_reducible refine RdT.bel ?_ hbd)) <;> fail))) hkt)
            | fail "no arm")
        all_goals
          go_wp2
          go_meet
          have hBv := HBv.out
          have hVv := bel_tr hbr sr (bel_tr HB5.out HB5.out.size hBv)
          refine ⟨gv, cv, rfl, hBv, hltv, fun k hk => ?_⟩
          have hk5 : k = 0 ∨ k = 1 ∨ k = 2 ∨ k = 3 ∨ k = 4 := by omega
          rcases hk5 with rfl | rfl | rfl | rfl | rfl
          · exact ⟨B, A, b, a, d, c, own_cell hv rfl, own_cell hv rfl, HRB.out.bel hVv, HRA.out.bel hVv, G1.out⟩
          · exact ⟨_, B, a.reverse, b, cR, d, by rw [List.length_reverse]; exact own_cell hv rfl, own_cell hv rfl, (hR.bel (bel_tr HB5.out HB5.out.size hBv)).1, HRB.out.bel hVv, G2.out⟩
          · exact ⟨A, _, a, negL b, c, cO, own_cell hv rfl, by rw [negL_length]; exact own_cell hv rfl, HRA.out.bel hVv, (hO.bel hBv).1, G3.out⟩
          · exact ⟨A10, B10, a ++ b, a ++ negL b, u10, v10, by rw [show (a ++ b).length = N by have := HN.out; simp; omega]; exact own_cell hv rfl, by rw [show (a ++ negL b).length = N by have := HN.out; simp; omega]; exact own_cell hv rfl, hqd.1, hqe.1, G4.out⟩
          · exact ⟨A11, B11, turnsTo a b a.length, turnsTo a (negL b) a.length, u11, v11, by rw [show (turnsTo a b a.length).length = N by have := HN.out; simp; omega]; exact own_cell hv rfl, by rw [show (turnsTo a (negL b) a.length).length = N by have := HN.out; simp; omega]; exact own_cell hv rfl, hqf.1, hqg.1, G5.out⟩
      obtain ⟨gv, cv, rfl, hBv, hgv, hGA⟩ := hcut
      obtain ⟨W9, hW9⟩ : ∃ W9, wc = W9 := ⟨_, rfl⟩
      rw [hW9] at hBv hgv hGA ⊢
      clear hW9 d0 d1 f0 f1 z0 z1 HG hownX HPD HPI HD HI5 HCP hIX hDX hU7X hV7X hU9X hV9X HWX hWX
      have hVW := bel_tr hbr sr (bel_tr HB5.out HB5.out.size hBv)
      have z0 := (hVW.cell (p := ⟨w.heap.size, 0, none⟩) hxV).trans HX0.out.1
      have z1 := (hVW.cell (p := ⟨w.heap.size, 1, none⟩) hxV).trans HX0.out.2
      have hxW := Nat.lt_of_lt_of_le hxV hVW.size
      have HRAW := hide (HRA.out.bel hVW)
      have HRBW := hide (HRB.out.bel hVW)
      have HG := hide hGA
      have hgW := hgv
      go_wp2
      go_loopw [11] (fun i wk => ∃ k : Nat, k ≤ 5 ∧ i = .int .i64 k ∧ Below W9.heap.size W9 wk) (fun i _ => 5 - (intOf i).toNat)
      case atStart => exact ⟨0, Nat.zero_le _, rfl, Below.refl _ _⟩
      case round =>
        obtain ⟨k, hk, rfl, hbk⟩ := hrel
        by_cases hlt : k < 5
        · obtain ⟨PA, PB, pa, pb, pc, pd, y0, y1, hPA, hPB, hGd, hl1, hl2⟩ := HG.out k hlt
          have y0 := (hbk.cell (p := ⟨gv, _, none⟩) hgW).trans y0
          have y1 := (hbk.cell (p := ⟨gv, _, none⟩) hgW).trans y1
          have HCP := hide (fun W h1 h2 => copyPair_c pa pb PA PB pc pd pa.length pb.length W rfl rfl h1 h2 hl1 hl2)
          have HCK := hide (fun (A B : Option Addr) (c d : Nat) W h1 h2 => checkPair_c pa pb A B c d W h1 h2 hl1 hl2)
          rw [hGd] at HCK
          clear hGd
          go_wp2_with (first
            | (go_at_call 12; refine (HCP.out _ (hPA.bel hbk) (hPB.bel hbk)).mono ?_; rintro e wa ⟨⟨A7, u7, B7, v7, rfl, hA7, hB7⟩, hba⟩)
            | (go_at_call 11; refine (HCK.out A7 B7 u7 v7 _ hA7.1 hB7.1).mono ?_; rintro e wb ⟨rfl, hbb⟩))
          go_roundw
          case rel => exact ⟨k + 1, by omega, by go_num, bel_tr (bel_tr hbk hbk.size hba) (bel_tr hbk hbk.size hba).size hbb⟩
          case measure => simp [intOf]; omega
        · obtain rfl : k = 5 := by omega
          have u0 := (hbk.cell (p := ⟨w.heap.size, 0, none⟩) hxW).trans z0
          have u1 := (hbk.cell (p := ⟨w.heap.size, 1, none⟩) hxW).trans z1
          have hxU := Nat.lt_of_lt_of_le hxW hbk.size
          have HRAU := hide (HRAW.out.bel hbk)
          have HRBU := hide (HRBW.out.bel hbk)
          have hVU := bel_tr hVW hVW.size hbk
          obtain ⟨U, hU⟩ : ∃ U, wr = U := ⟨_, rfl⟩
          rw [hU] at u0 u1 hxU HRAU HRBU hVU ⊢
          clear hU hbk
          go_wp2
          go_loopw [14] (fun t wq => ∃ j : Nat, j + 1 ≤ 2 * a.length ∧ t = .int .i64 (1 - (a.length : Int) + (j : Int)) ∧ Below U.heap.size U wq) (fun t _ => ((a.length : Int) - intOf t).toNat)
          case atStart => exact ⟨0, by omega, by simp, Below.refl _ _⟩
          case round =>
            obtain ⟨j, hj, rfl, hbq⟩ := hrel
            obtain ⟨wq, hwq⟩ : ∃ wq, wr = wq := ⟨_, rfl⟩
            rw [hwq] at hbq ⊢
            clear hwq
            have y0 := (hbq.cell (p := ⟨w.heap.size, 0, none⟩) hxU).trans u0
            have y1 := (hbq.cell (p := ⟨w.heap.size, 1, none⟩) hxU).trans u1
            have hxq := Nat.lt_of_lt_of_le hxU hbq.size
            obtain ⟨lag, hlag⟩ : ∃ lag, 1 - (a.length : Int) + (j : Int) = lag := ⟨_, rfl⟩
            rw [hlag]
            have HLJ := hide hlag
            by_cases hlt : lag < (a.length : Int)
            · have hlg1 : 1 - (a.length : Int) ≤ lag := by omega
              have hlg2 : lag ≤ (a.length : Int) - 1 := by omega
              clear hlag
              by_cases hz : lag = 0
              · have HKA := hide (fun W' (h : Below U.heap.size U W') => copyInts_c a A c W' (HRAU.out.bel h) (by omega))
                have HKB := hide (fun W' (h : Below U.heap.size U W') => copyInts_c b B d W' (HRBU.out.bel h) (by omega))
                have hsum := HSUM.out lag
                rw [if_pos hz] at hsum
                have hz0 : (lag == 0) = true := by simpa using hz
                have HCA := hide (fun A1 A2 c1 c2 W h1 h2 => HCA.out A1 A2 c1 c2 lag W h1 h2)
                have HCB := hide (fun A1 A2 c1 c2 W h1 h2 => HCB.out A1 A2 c1 c2 lag W h1 h2)
                generalize corr a a lag = ca at HCA hsum
                generalize corr b b lag = cb at HCB hsum
                have wr1 : IntKind.i64.wrap (ca + cb) = 2 * (a.length : Int) := by rw [hsum]; simp (disch := omega) only [IntWalk.i64_in]
                clear hz hsum
                go_upto_region 27 with fail
                go_cut [15, 16] from 142 to 152 (fun t1 t2 wx => t1 = .int .i64 ca ∧ t2 = .int .i64 0 ∧ Below wq.heap.size wq wx)
                case first =>
                  go_region_held3 (fun w' => (∀ b o, b < wq.heap.size → w'.cell? ⟨b, o, none⟩ = wq.cell? ⟨b, o, none⟩) ∧ Below wq.heap.size wq w')
                    ((refine kp ?_; ((repeat' (first | with_reducible exact Below.refl _ _ | with_reducible exact HBz.out | with_reducible exact HB2.out | with_reducible exact HB1.out | with_reducible refine Below.drew ?_ | with_reducible refine bel_alloc ?_ ?_ _ | with_reducible refine Below.setCell ?_ ?_ _)); all_goals (first | omega | (simp <;> omega)))))
                    (first
                      | (go_at_call 22; have _g := HB1; refine (HKA.out _ (bel_tr hbq hbq.size (by ((repeat' (first | with_reducible exact Below.refl _ _ | with_reducible exact HBz.out | with_reducible exact HB2.out | with_reducible exact HB1.out | with_reducible refine Below.drew ?_ | with_reducible refine bel_alloc ?_ ?_ _ | with_reducible refine Below.setCell ?_ ?_ _)); all_goals (first | omega | (simp <;> omega)))))).mono ?_; rintro e wc2 ⟨⟨C2, uC2, rfl, rC2⟩, hbC2⟩; have HB2 : Hid (Below wq.heap.size wq wc2) := (by refine bel_tr ?_ ?_ hbC2; ((repeat' (first | with_reducible exact Below.refl _ _ | with_reducible exact HBz.out | with_reducible exact HB2.out | with_reducible exact HB1.out | with_reducible refine Below.drew ?_ | with_reducible refine bel_alloc ?_ ?_ _ | with_reducible refine Below.setCell ?_ ?_ _)); all_goals (first | omega | (simp <;> omega)))); have sc2 := HB2.out.size)
                      | (go_at_call 22; refine (HKA.out _ (bel_tr hbq hbq.size (by ((repeat' (first | with_reducible exact Below.refl _ _ | with_reducible exact HBz.out | with_reducible exact HB2.out | with_reducible exact HB1.out | with_reducible refine Below.drew ?_ | with_reducible refine bel_alloc ?_ ?_ _ | with_reducible refine Below.setCell ?_ ?_ _)); all_goals (first | omega | (simp <;> omega)))))).mono ?_; rintro e wc1 ⟨⟨C1, uC1, rfl, rC1⟩, hbC1⟩; have HB1 : Hid (Below wq.heap.size wq wc1) := (by refine bel_tr ?_ ?_ hbC1; ((repeat' (first | with_reducible exact Below.refl _ _ | with_reducible exact HBz.out | with_reducible exact HB2.out | with_reducible exact HB1.out | with_reducible refine Below.drew ?_ | with_reducible refine bel_alloc ?_ ?_ _ | with_reducible refine Below.setCell ?_ ?_ _)); all_goals (first | omega | (simp <;> omega)))); have sc1 := HB1.out.size)
                      | (go_at_call 21; (with_reducible show Calls _ _ #[Value.slice C1 _ _, Value.slice C2 _ _, _] _ _); refine (HCA.out C1 C2 uC1 uC2 _ (rC1.bel (by ((repeat' (first | with_reducible exact Below.refl _ _ | with_reducible exact hbC2 | with_reducible refine Below.drew ?_)); all_goals omega))).1 (rC2.bel (by ((repeat' (first | with_reducible exact Below.refl _ _ | with_reducible exact hbC2 | with_reducible refine Below.drew ?_)); all_goals omega))).1 hlg1 hlg2).mono ?_; rintro e wz ⟨rfl, hbz⟩; have HBz : Hid (Below wq.heap.size wq wz) := (by refine bel_tr ?_ ?_ hbz; ((repeat' (first | with_reducible exact Below.refl _ _ | with_reducible exact HBz.out | with_reducible exact HB2.out | with_reducible exact HB1.out | with_reducible refine Below.drew ?_ | with_reducible refine bel_alloc ?_ ?_ _ | with_reducible refine Below.setCell ?_ ?_ _)); all_goals (first | omega | (simp <;> omega)))); have sz := HBz.out.size)
                      | (go_at_call 21; (with_reducible show Calls _ _ #[Value.slice C2 _ _, Value.slice C1 _ _, _] _ _); refine (HCA.out C2 C1 uC2 uC1 _ (rC2.bel (by ((repeat' (first | with_reducible exact Below.refl _ _ | with_reducible exact hbC2 | with_reducible refine Below.drew ?_)); all_goals omega))).1 (rC1.bel (by ((repeat' (first | with_reducible exact Below.refl _ _ | with_reducible exact hbC2 | with_reducible refine Below.drew ?_)); all_goals omega))).1 hlg1 hlg2).mono ?_; rintro e wz ⟨rfl, hbz⟩; have HBz : Hid (Below wq.heap.size wq wz) := (by refine bel_tr ?_ ?_ hbz; ((repeat' (first | with_reducible exact Below.refl _ _ | with_reducible exact HBz.out | with_reducible exact HB2.out | with_reducible exact HB1.out | with_reducible refine Below.drew ?_ | with_reducible refine bel_alloc ?_ ?_ _ | with_reducible refine Below.setCell ?_ ?_ _)); all_goals (first | omega | (simp <;> omega)))); have sz := HBz.out.size)
                      | fail "no arm")
                  all_goals
                    go_wp2
                    go_meet
                    refine ⟨rfl, rfl, ?_⟩
                    ((repeat' (first | with_reducible exact Below.refl _ _ | with_reducible exact HBz.out | with_reducible exact HB2.out | with_reducible exact HB1.out | with_reducible refine Below.drew ?_ | with_reducible refine bel_alloc ?_ ?_ _ | with_reducible refine Below.setCell ?_ ?_ _)); all_goals (first | omega | (simp <;> omega)))
                obtain ⟨rfl, rfl, hbx⟩ := hcut
                obtain ⟨Y, hY⟩ : ∃ Y, wc = Y := ⟨_, rfl⟩
                rw [hY] at hbx ⊢
                have y0 := (hbx.cell (p := ⟨w.heap.size, 0, none⟩) hxq).trans y0
                have y1 := (hbx.cell (p := ⟨w.heap.size, 1, none⟩) hxq).trans y1
                have hxY := Nat.lt_of_lt_of_le hxq hbx.size
                have hbqY := bel_tr hbq hbq.size hbx
                clear hY
                go_upto_region 28 with fail
                go_cut [17, 18] from 153 to 163 (fun t1 t2 wx => t1 = .int .i64 cb ∧ t2 = .int .i64 0 ∧ Below Y.heap.size Y wx)
                case first =>
                  go_region_held3 (fun w' => (∀ b o, b < Y.heap.size → w'.cell? ⟨b, o, none⟩ = Y.cell? ⟨b, o, none⟩) ∧ Below Y.heap.size Y w')
                    ((refine kp ?_; ((repeat' (first | with_reducible exact Below.refl _ _ | with_reducible exact HBz.out | with_reducible exact HB2.out | with_reducible exact HB1.out | with_reducible refine Below.drew ?_ | with_reducible refine bel_alloc ?_ ?_ _ | with_reducible refine Below.setCell ?_ ?_ _)); all_goals (first | omega | (simp <;> omega)))))
                    (first
                      | (go_at_call 22; have _g := HB1; refine (HKB.out _ (bel_tr hbqY hbqY.size (by ((repeat' (first | with_reducible exact Below.refl _ _ | with_reducible exact HBz.out | with_reducible exact HB2.out | with_reducible exact HB1.out | with_reducible refine Below.drew ?_ | with_reducible refine bel_alloc ?_ ?_ _ | with_reducible refine Below.setCell ?_ ?_ _)); all_goals (first | omega | (simp <;> omega)))))).mono ?_; rintro e wc2 ⟨⟨C2, uC2, rfl, rC2⟩, hbC2⟩; have HB2 : Hid (Below Y.heap.size Y wc2) := (by refine bel_tr ?_ ?_ hbC2; ((repeat' (first | with_reducible exact Below.refl _ _ | with_reducible exact HBz.out | with_reducible exact HB2.out | with_reducible exact HB1.out | with_reducible refine Below.drew ?_ | with_reducible refine bel_alloc ?_ ?_ _ | with_reducible refine Below.setCell ?_ ?_ _)); all_goals (first | omega | (simp <;> omega)))); have sc2 := HB2.out.size)
                      | (go_at_call 22; refine (HKB.out _ (bel_tr hbqY hbqY.size (by ((repeat' (first | with_reducible exact Below.refl _ _ | with_reducible exact HBz.out | with_reducible exact HB2.out | with_reducible exact HB1.out | with_reducible refine Below.drew ?_ | with_reducible refine bel_alloc ?_ ?_ _ | with_reducible refine Below.setCell ?_ ?_ _)); all_goals (first | omega | (simp <;> omega)))))).mono ?_; rintro e wc1 ⟨⟨C1, uC1, rfl, rC1⟩, hbC1⟩; have HB1 : Hid (Below Y.heap.size Y wc1) := (by refine bel_tr ?_ ?_ hbC1; ((repeat' (first | with_reducible exact Below.refl _ _ | with_reducible exact HBz.out | with_reducible exact HB2.out | with_reducible exact HB1.out | with_reducible refine Below.drew ?_ | with_reducible refine bel_alloc ?_ ?_ _ | with_reducible refine Below.setCell ?_ ?_ _)); all_goals (first | omega | (simp <;> omega)))); have sc1 := HB1.out.size)
                      | (go_at_call 21; (with_reducible show Calls _ _ #[Value.slice C1 _ _, Value.slice C2 _ _, _] _ _); refine (HCB.out C1 C2 uC1 uC2 _ (rC1.bel (by ((repeat' (first | with_reducible exact Below.refl _ _ | with_reducible exact hbC2 | with_reducible refine Below.drew ?_)); all_goals omega))).1 (rC2.bel (by ((repeat' (first | with_reducible exact Below.refl _ _ | with_reducible exact hbC2 | with_reducible refine Below.drew ?_)); all_goals omega))).1 hlg1 hlg2).mono ?_; rintro e wz ⟨rfl, hbz⟩; have HBz : Hid (Below Y.heap.size Y wz) := (by refine bel_tr ?_ ?_ hbz; ((repeat' (first | with_reducible exact Below.refl _ _ | with_reducible exact HBz.out | with_reducible exact HB2.out | with_reducible exact HB1.out | with_reducible refine Below.drew ?_ | with_reducible refine bel_alloc ?_ ?_ _ | with_reducible refine Below.setCell ?_ ?_ _)); all_goals (first | omega | (simp <;> omega)))); have sz := HBz.out.size)
                      | (go_at_call 21; (with_reducible show Calls _ _ #[Value.slice C2 _ _, Value.slice C1 _ _, _] _ _); refine (HCB.out C2 C1 uC2 uC1 _ (rC2.bel (by ((repeat' (first | with_reducible exact Below.refl _ _ | with_reducible exact hbC2 | with_reducible refine Below.drew ?_)); all_goals omega))).1 (rC1.bel (by ((repeat' (first | with_reducible exact Below.refl _ _ | with_reducible exact hbC2 | with_reducible refine Below.drew ?_)); all_goals omega))).1 hlg1 hlg2).mono ?_; rintro e wz ⟨rfl, hbz⟩; have HBz : Hid (Below Y.heap.size Y wz) := (by refine bel_tr ?_ ?_ hbz; ((repeat' (first | with_reducible exact Below.refl _ _ | with_reducible exact HBz.out | with_reducible exact HB2.out | with_reducible exact HB1.out | with_reducible refine Below.drew ?_ | with_reducible refine bel_alloc ?_ ?_ _ | with_reducible refine Below.setCell ?_ ?_ _)); all_goals (first | omega | (simp <;> omega)))); have sz := HBz.out.size)
                      | fail "no arm")
                  all_goals
                    go_wp2
                    go_meet
                    refine ⟨rfl, rfl, ?_⟩
                    ((repeat' (first | with_reducible exact Below.refl _ _ | with_reducible exact HBz.out | with_reducible exact HB2.out | with_reducible exact HB1.out | with_reducible refine Below.drew ?_ | with_reducible refine bel_alloc ?_ ?_ _ | with_reducible refine Below.setCell ?_ ?_ _)); all_goals (first | omega | (simp <;> omega)))
                obtain ⟨rfl, rfl, hbx2⟩ := hcut
                go_wp2
                go_roundw
                case rel => exact ⟨j + 1, by have := HLJ.out; omega, by have := HLJ.out; congr 1; omega, bel_tr hbqY hbqY.size hbx2⟩
                case measure => have := HLJ.out; simp [intOf]; omega
              · have HKA := hide (fun W' (h : Below U.heap.size U W') => copyInts_c a A c W' (HRAU.out.bel h) (by omega))
                have HKB := hide (fun W' (h : Below U.heap.size U W') => copyInts_c b B d W' (HRBU.out.bel h) (by omega))
                have hsum := HSUM.out lag
                rw [if_neg hz] at hsum
                have hz0 : (lag == 0) = false := by simpa using hz
                have HCA := hide (fun A1 A2 c1 c2 W h1 h2 => HCA.out A1 A2 c1 c2 lag W h1 h2)
                have HCB := hide (fun A1 A2 c1 c2 W h1 h2 => HCB.out A1 A2 c1 c2 lag W h1 h2)
                generalize corr a a lag = ca at HCA hsum
                generalize corr b b lag = cb at HCB hsum
                have wr1 : IntKind.i64.wrap (ca + cb) = 0 := by rw [hsum]; simp (disch := omega) only [IntWalk.i64_in]
                clear hz hsum
                go_upto_region 27 with fail
                go_cut [15, 16] from 142 to 152 (fun t1 t2 wx => t1 = .int .i64 ca ∧ t2 = .int .i64 0 ∧ Below wq.heap.size wq wx)
                case first =>
                  go_region_held3 (fun w' => (∀ b o, b < wq.heap.size → w'.cell? ⟨b, o, none⟩ = wq.cell? ⟨b, o, none⟩) ∧ Below wq.heap.size wq w')
                    ((refine kp ?_; ((repeat' (first | with_reducible exact Below.refl _ _ | with_reducible exact HBz.out | with_reducible exact HB2.out | with_reducible exact HB1.out | with_reducible refine Below.drew ?_ | with_reducible refine bel_alloc ?_ ?_ _ | with_reducible refine Below.setCell ?_ ?_ _)); all_goals (first | omega | (simp <;> omega)))))
                    (first
                      | (go_at_call 22; have _g := HB1; refine (HKA.out _ (bel_tr hbq hbq.size (by ((repeat' (first | with_reducible exact Below.refl _ _ | with_reducible exact HBz.out | with_reducible exact HB2.out | with_reducible exact HB1.out | with_reducible refine Below.drew ?_ | with_reducible refine bel_alloc ?_ ?_ _ | with_reducible refine Below.setCell ?_ ?_ _)); all_goals (first | omega | (simp <;> omega)))))).mono ?_; rintro e wc2 ⟨⟨C2, uC2, rfl, rC2⟩, hbC2⟩; have HB2 : Hid (Below wq.heap.size wq wc2) := (by refine bel_tr ?_ ?_ hbC2; ((repeat' (first | with_reducible exact Below.refl _ _ | with_reducible exact HBz.out | with_reducible exact HB2.out | with_reducible exact HB1.out | with_reducible refine Below.drew ?_ | with_reducible refine bel_alloc ?_ ?_ _ | with_reducible refine Below.setCell ?_ ?_ _)); all_goals (first | omega | (simp <;> omega)))); have sc2 := HB2.out.size)
                      | (go_at_call 22; refine (HKA.out _ (bel_tr hbq hbq.size (by ((repeat' (first | with_reducible exact Below.refl _ _ | with_reducible exact HBz.out | with_reducible exact HB2.out | with_reducible exact HB1.out | with_reducible refine Below.drew ?_ | with_reducible refine bel_alloc ?_ ?_ _ | with_reducible refine Below.setCell ?_ ?_ _)); all_goals (first | omega | (simp <;> omega)))))).mono ?_; rintro e wc1 ⟨⟨C1, uC1, rfl, rC1⟩, hbC1⟩; have HB1 : Hid (Below wq.heap.size wq wc1) := (by refine bel_tr ?_ ?_ hbC1; ((repeat' (first | with_reducible exact Below.refl _ _ | with_reducible exact HBz.out | with_reducible exact HB2.out | with_reducible exact HB1.out | with_reducible refine Below.drew ?_ | with_reducible refine bel_alloc ?_ ?_ _ | with_reducible refine Below.setCell ?_ ?_ _)); all_goals (first | omega | (simp <;> omega)))); have sc1 := HB1.out.size)
                      | (go_at_call 21; (with_reducible show Calls _ _ #[Value.slice C1 _ _, Value.slice C2 _ _, _] _ _); refine (HCA.out C1 C2 uC1 uC2 _ (rC1.bel (by ((repeat' (first | with_reducible exact Below.refl _ _ | with_reducible exact hbC2 | with_reducible refine Below.drew ?_)); all_goals omega))).1 (rC2.bel (by ((repeat' (first | with_reducible exact Below.refl _ _ | with_reducible exact hbC2 | with_reducible refine Below.drew ?_)); all_goals omega))).1 hlg1 hlg2).mono ?_; rintro e wz ⟨rfl, hbz⟩; have HBz : Hid (Below wq.heap.size wq wz) := (by refine bel_tr ?_ ?_ hbz; ((repeat' (first | with_reducible exact Below.refl _ _ | with_reducible exact HBz.out | with_reducible exact HB2.out | with_reducible exact HB1.out | with_reducible refine Below.drew ?_ | with_reducible refine bel_alloc ?_ ?_ _ | with_reducible refine Below.setCell ?_ ?_ _)); all_goals (first | omega | (simp <;> omega)))); have sz := HBz.out.size)
                      | (go_at_call 21; (with_reducible show Calls _ _ #[Value.slice C2 _ _, Value.slice C1 _ _, _] _ _); refine (HCA.out C2 C1 uC2 uC1 _ (rC2.bel (by ((repeat' (first | with_reducible exact Below.refl _ _ | with_reducible exact hbC2 | with_reducible refine Below.drew ?_)); all_goals omega))).1 (rC1.bel (by ((repeat' (first | with_reducible exact Below.refl _ _ | with_reducible exact hbC2 | with_reducible refine Below.drew ?_)); all_goals omega))).1 hlg1 hlg2).mono ?_; rintro e wz ⟨rfl, hbz⟩; have HBz : Hid (Below wq.heap.size wq wz) := (by refine bel_tr ?_ ?_ hbz; ((repeat' (first | with_reducible exact Below.refl _ _ | with_reducible exact HBz.out | with_reducible exact HB2.out | with_reducible exact HB1.out | with_reducible refine Below.drew ?_ | with_reducible refine bel_alloc ?_ ?_ _ | with_reducible refine Below.setCell ?_ ?_ _)); all_goals (first | omega | (simp <;> omega)))); have sz := HBz.out.size)
                      | fail "no arm")
                  all_goals
                    go_wp2
                    go_meet
                    refine ⟨rfl, rfl, ?_⟩
                    ((repeat' (first | with_reducible exact Below.refl _ _ | with_reducible exact HBz.out | with_reducible exact HB2.out | with_reducible exact HB1.out | with_reducible refine Below.drew ?_ | with_reducible refine bel_alloc ?_ ?_ _ | with_reducible refine Below.setCell ?_ ?_ _)); all_goals (first | omega | (simp <;> omega)))
                obtain ⟨rfl, rfl, hbx⟩ := hcut
                obtain ⟨Y, hY⟩ : ∃ Y, wc = Y := ⟨_, rfl⟩
                rw [hY] at hbx ⊢
                have y0 := (hbx.cell (p := ⟨w.heap.size, 0, none⟩) hxq).trans y0
                have y1 := (hbx.cell (p := ⟨w.heap.size, 1, none⟩) hxq).trans y1
                have hxY := Nat.lt_of_lt_of_le hxq hbx.size
                have hbqY := bel_tr hbq hbq.size hbx
                clear hY
                go_upto_region 28 with fail
                go_cut [17, 18] from 153 to 163 (fun t1 t2 wx => t1 = .int .i64 cb ∧ t2 = .int .i64 0 ∧ Below Y.heap.size Y wx)
                case first =>
                  go_region_held3 (fun w' => (∀ b o, b < Y.heap.size → w'.cell? ⟨b, o, none⟩ = Y.cell? ⟨b, o, none⟩) ∧ Below Y.heap.size Y w')
                    ((refine kp ?_; ((repeat' (first | with_reducible exact Below.refl _ _ | with_reducible exact HBz.out | with_reducible exact HB2.out | with_reducible exact HB1.out | with_reducible refine Below.drew ?_ | with_reducible refine bel_alloc ?_ ?_ _ | with_reducible refine Below.setCell ?_ ?_ _)); all_goals (first | omega | (simp <;> omega)))))
                    (first
                      | (go_at_call 22; have _g := HB1; refine (HKB.out _ (bel_tr hbqY hbqY.size (by ((repeat' (first | with_reducible exact Below.refl _ _ | with_reducible exact HBz.out | with_reducible exact HB2.out | with_reducible exact HB1.out | with_reducible refine Below.drew ?_ | with_reducible refine bel_alloc ?_ ?_ _ | with_reducible refine Below.setCell ?_ ?_ _)); all_goals (first | omega | (simp <;> omega)))))).mono ?_; rintro e wc2 ⟨⟨C2, uC2, rfl, rC2⟩, hbC2⟩; have HB2 : Hid (Below Y.heap.size Y wc2) := (by refine bel_tr ?_ ?_ hbC2; ((repeat' (first | with_reducible exact Below.refl _ _ | with_reducible exact HBz.out | with_reducible exact HB2.out | with_reducible exact HB1.out | with_reducible refine Below.drew ?_ | with_reducible refine bel_alloc ?_ ?_ _ | with_reducible refine Below.setCell ?_ ?_ _)); all_goals (first | omega | (simp <;> omega)))); have sc2 := HB2.out.size)
                      | (go_at_call 22; refine (HKB.out _ (bel_tr hbqY hbqY.size (by ((repeat' (first | with_reducible exact Below.refl _ _ | with_reducible exact HBz.out | with_reducible exact HB2.out | with_reducible exact HB1.out | with_reducible refine Below.drew ?_ | with_reducible refine bel_alloc ?_ ?_ _ | with_reducible refine Below.setCell ?_ ?_ _)); all_goals (first | omega | (simp <;> omega)))))).mono ?_; rintro e wc1 ⟨⟨C1, uC1, rfl, rC1⟩, hbC1⟩; have HB1 : Hid (Below Y.heap.size Y wc1) := (by refine bel_tr ?_ ?_ hbC1; ((repeat' (first | with_reducible exact Below.refl _ _ | with_reducible exact HBz.out | with_reducible exact HB2.out | with_reducible exact HB1.out | with_reducible refine Below.drew ?_ | with_reducible refine bel_alloc ?_ ?_ _ | with_reducible refine Below.setCell ?_ ?_ _)); all_goals (first | omega | (simp <;> omega)))); have sc1 := HB1.out.size)
                      | (go_at_call 21; (with_reducible show Calls _ _ #[Value.slice C1 _ _, Value.slice C2 _ _, _] _ _); refine (HCB.out C1 C2 uC1 uC2 _ (rC1.bel (by ((repeat' (first | with_reducible exact Below.refl _ _ | with_reducible exact hbC2 | with_reducible refine Below.drew ?_)); all_goals omega))).1 (rC2.bel (by ((repeat' (first | with_reducible exact Below.refl _ _ | with_reducible exact hbC2 | with_reducible refine Below.drew ?_)); all_goals omega))).1 hlg1 hlg2).mono ?_; rintro e wz ⟨rfl, hbz⟩; have HBz : Hid (Below Y.heap.size Y wz) := (by refine bel_tr ?_ ?_ hbz; ((repeat' (first | with_reducible exact Below.refl _ _ | with_reducible exact HBz.out | with_reducible exact HB2.out | with_reducible exact HB1.out | with_reducible refine Below.drew ?_ | with_reducible refine bel_alloc ?_ ?_ _ | with_reducible refine Below.setCell ?_ ?_ _)); all_goals (first | omega | (simp <;> omega)))); have sz := HBz.out.size)
                      | (go_at_call 21; (with_reducible show Calls _ _ #[Value.slice C2 _ _, Value.slice C1 _ _, _] _ _); refine (HCB.out C2 C1 uC2 uC1 _ (rC2.bel (by ((repeat' (first | with_reducible exact Below.refl _ _ | with_reducible exact hbC2 | with_reducible refine Below.drew ?_)); all_goals omega))).1 (rC1.bel (by ((repeat' (first | with_reducible exact Below.refl _ _ | with_reducible exact hbC2 | with_reducible refine Below.drew ?_)); all_goals omega))).1 hlg1 hlg2).mono ?_; rintro e wz ⟨rfl, hbz⟩; have HBz : Hid (Below Y.heap.size Y wz) := (by refine bel_tr ?_ ?_ hbz; ((repeat' (first | with_reducible exact Below.refl _ _ | with_reducible exact HBz.out | with_reducible exact HB2.out | with_reducible exact HB1.out | with_reducible refine Below.drew ?_ | with_reducible refine bel_alloc ?_ ?_ _ | with_reducible refine Below.setCell ?_ ?_ _)); all_goals (first | omega | (simp <;> omega)))); have sz := HBz.out.size)
                      | fail "no arm")
                  all_goals
                    go_wp2
                    go_meet
                    refine ⟨rfl, rfl, ?_⟩
                    ((repeat' (first | with_reducible exact Below.refl _ _ | with_reducible exact HBz.out | with_reducible exact HB2.out | with_reducible exact HB1.out | with_reducible refine Below.drew ?_ | with_reducible refine bel_alloc ?_ ?_ _ | with_reducible refine Below.setCell ?_ ?_ _)); all_goals (first | omega | (simp <;> omega)))
                obtain ⟨rfl, rfl, hbx2⟩ := hcut
                go_wp2
                go_roundw
                case rel => exact ⟨j + 1, by have := HLJ.out; omega, by have := HLJ.out; congr 1; omega, bel_tr hbqY hbqY.size hbx2⟩
                case measure => have := HLJ.out; simp [intOf]; omega
            · clear hlag
              go_wp2
              go_ret
              exact ⟨rfl, bel_tr hW2 hW2.size (bel_tr hVU hVU.size hbq)⟩


theorem complementary_c (a b : List Int) (A B : Option Addr) (c d : Nat) (w : World) (hT : Tab w) (hr : Rd w A (ints a)) (hs : Rd w B (ints b)) :
    Calls Tryd.prog 4 #[.agg #[.slice A a.length c, .slice B b.length d]] w fun r w' => r = .returned (.bool true) ∧ Below w.heap.size w w' := by
  by_cases h1 : a.length ≤ 34
  · by_cases h2 : b.length ≤ 34
    · by_cases h3 : (pairP a b).2 = 0
      · by_cases h4 : a.length ≤ 16
        · exact compl_5 a b A B c d w hT hr hs h1 h3 h4
        · exact compl_4 a b A B c d w hT hr hs h1 h3 (by omega)
      · exact compl_3 a b A B c d w hT hr hs h1 h2 h3
    · exact compl_2 a b A B c d w hT hr hs h1 (by omega)
  · exact compl_1 a b A B c d w hT hr hs (by omega)
end Go.Proofs.YtdpcehlakhahiaaDoor
