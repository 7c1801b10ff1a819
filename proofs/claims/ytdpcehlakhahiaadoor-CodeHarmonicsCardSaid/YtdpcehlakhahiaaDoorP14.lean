/- Contracts: which harmonics are lines, the errors and the copies of frames, as the reference has them. -/
import Derived.Test.YtdpcehlakhahiaaDoorP13
import Derived.Test.YtdpcehlakhahiaaDoorR6
namespace Go.Proofs.YtdpcehlakhahiaaDoor
open Go.RowKit
set_option maxRecDepth 100000

theorem cmpS_line {all t num den : Int} : decide (0 < cmpS (3 * t) 1 (num * (all - t)) den) = lineB all t num den := by
  unfold cmpS lineB
  rw [Int.mul_one]
  by_cases h1 : 3 * t * den < num * (all - t)
  · rw [if_pos h1, decide_eq_false (by omega), decide_eq_false (by omega)]
  · rw [if_neg h1]
    by_cases h2 : num * (all - t) < 3 * t * den
    · rw [if_pos h2, decide_eq_true h2]; rfl
    · rw [if_neg h2, decide_eq_false h2]; rfl

set_option maxHeartbeats 2000000 in
theorem refLinesIn_c (l : List Fr) (F : Option Addr) (c : Nat) (num den : Int) (w : World) (hr : Rd w F (l.map Fr.row).flatten) (hok : ∀ f ∈ l, f.ok w) (hE : linE l num den = 0) :
    Calls Tryd.prog 31 #[.slice F l.length c, .agg #[.int .i64 num, .int .i64 den]] w fun r w' => (∃ A' c', r = .returned (.slice A' (linTo (powSum l 0 + powSum l 1 + powSum l 2 + powSum l 3) (powSum l) num den 4).length c') ∧ RdT w' 3 A' (ints (linTo (powSum l 0 + powSum l 1 + powSum l 2 + powSum l 3) (powSum l) num den 4))) ∧ Below w.heap.size w w' := by
  obtain ⟨i0, hi, iz0, iz1, iz2⟩ := info_parts Tryd.info3
  obtain ⟨f0, f1⟩ := linE_zero hE
  obtain ⟨hn1, hn2, hd1, hd2⟩ := ratE_zero f1
  obtain ⟨_, hl4, herr⟩ := framesE_zero f0
  have hPB := powPB f0
  have hX := Blk.new w 43 [.int .i64 num, .int .i64 den]
  have hA := alloc_bel w (.cells #[.int .i64 num, .int .i64 den] 43)
  have HP := hide (fun W (h : Below w.heap.size w W) => refPowersOf_c l F c W (hr.bel h) (fun f hf => (hok f hf).bel h) herr hl4)
  have hxl := hX.lt
  clear hE hr hok f0 f1 herr
  have c0 := hX.cell 0; have c1 := hX.cell 1; simp only [List.getElem?_cons_zero, List.getElem?_cons_succ] at c0 c1
  generalize powSum l = T at HP hPB ⊢
  have a1 : IntKind.i64.wrap (T 0 + T 1) = T 0 + T 1 := by have := hPB.b 0 (by omega); have := hPB.b 1 (by omega); simp (disch := omega) only [IntWalk.i64_in]
  have a2 : IntKind.i64.wrap (T 0 + T 1 + T 2) = T 0 + T 1 + T 2 := by have := hPB.b 0 (by omega); have := hPB.b 1 (by omega); have := hPB.b 2 (by omega); simp (disch := omega) only [IntWalk.i64_in]
  have a3 : IntKind.i64.wrap (T 0 + T 1 + T 2 + T 3) = T 0 + T 1 + T 2 + T 3 := by have := hPB.b 0 (by omega); have := hPB.b 1 (by omega); have := hPB.b 2 (by omega); have := hPB.b 3 (by omega); simp (disch := omega) only [IntWalk.i64_in]
  go_enter Tryd.func31, Tryd.ntmps31
  go_upto_region 2 with (first
    | (go_at_call 28; refine (HP.out _ hA).mono ?_; rintro e_ w1 ⟨rfl, hb1⟩))
  have hX1 := hX.bel hb1
  have hB1 := bel_tr hA hA.size hb1
  have hXB := hX1.bel (alloc_bel w1 (.cells #[.int .i64 (T 0), .int .i64 (T 1), .int .i64 (T 2), .int .i64 (T 3)] 48))
  have hQB := Blk.new w1 48 [.int .i64 (T 0), .int .i64 (T 1), .int .i64 (T 2), .int .i64 (T 3)]
  have hBB := bel_alloc hB1 hB1.size (.cells #[.int .i64 (T 0), .int .i64 (T 1), .int .i64 (T 2), .int .i64 (T 3)] 48)
  obtain ⟨WB, hWB⟩ : ∃ WB, w1.alloc (.cells #[.int .i64 (T 0), .int .i64 (T 1), .int .i64 (T 2), .int .i64 (T 3)] 48) = WB := ⟨_, rfl⟩
  rw [hWB] at hBB hXB hQB ⊢
  clear hWB hB1 hb1 hA hX HP c0 c1 hxl hX1
  have hXl := hXB.lt
  have hQl := hQB.lt
  have y0 := hXB.cell 0; have y1 := hXB.cell 1; simp only [List.getElem?_cons_zero, List.getElem?_cons_succ] at y0 y1
  have t0 := hQB.cell 0; have t1 := hQB.cell 1; have t2 := hQB.cell 2; have t3 := hQB.cell 3; simp only [List.getElem?_cons_zero, List.getElem?_cons_succ] at t0 t1 t2 t3
  go_wp2
  obtain ⟨S, hS⟩ : ∃ S, T 0 + T 1 + T 2 + T 3 = S := ⟨_, rfl⟩
  have HSum : Hid (T 0 + T 1 + T 2 + T 3 = S) := hS
  rw [hS]
  clear hS a1 a2 a3
  go_loopw [7, 8] (fun v i wr => ∃ k : Nat, k ≤ 4 ∧ i = .int .i64 k ∧ Below WB.heap.size WB wr ∧ ∃ n : Nat, wr.ownsRow WB.heap.size 3 1 v n (ints (linTo S T num den k))) (fun _ i _ => 4 - (intOf i).toNat)
  case atStart => exact ⟨0, by omega, rfl, Below.refl _ _, 0, World.ownsRow_nil _ _ _ _⟩
  case round =>
    obtain ⟨k, hk, rfl, hbr, n, hown⟩ := hrel
    have hn : n = (linTo S T num den k).length := by
      have := hown.1
      rw [ints_length] at this
      omega
    subst hn
    have y0 := (hbr.cell (p := ⟨w.heap.size, 0, none⟩) hXl).trans y0
    have y1 := (hbr.cell (p := ⟨w.heap.size, 1, none⟩) hXl).trans y1
    have t0 := (hbr.cell (p := ⟨w1.heap.size, 0, none⟩) hQl).trans t0
    have t1 := (hbr.cell (p := ⟨w1.heap.size, 1, none⟩) hQl).trans t1
    have t2 := (hbr.cell (p := ⟨w1.heap.size, 2, none⟩) hQl).trans t2
    have t3 := (hbr.cell (p := ⟨w1.heap.size, 3, none⟩) hQl).trans t3
    have g0 := hPB.b 0 (by omega)
    have g1 := hPB.b 1 (by omega)
    have g2 := hPB.b 2 (by omega)
    have g3 := hPB.b 3 (by omega)
    obtain ⟨A', c', rfl⟩ := ownsRow_slice hown
    have hk5 : k = 0 ∨ k = 1 ∨ k = 2 ∨ k = 3 ∨ k = 4 := by omega
    rcases hk5 with rfl | rfl | rfl | rfl | rfl
    · skip
      obtain ⟨p1, p2⟩ := hPB.b 0 (by omega)
      have q := prod_bd p1 p2 hd1 hd2
      have r := prod_bd2 (s := S - T 0) (by have := HSum.out; omega) (by have := HSum.out; omega) hn1 hn2
      have m1 : IntKind.i64.wrap (3 * T 0) = 3 * T 0 := by simp (disch := omega) only [IntWalk.i64_in]
      have m3 : IntKind.i64.wrap (S - T 0) = S - T 0 := by have := HSum.out; simp (disch := omega) only [IntWalk.i64_in]
      have m4 : IntKind.i64.wrap (num * (S - T 0)) = num * (S - T 0) := by simp (disch := omega) only [IntWalk.i64_in]
      have hle := linTo_le S T num den 0
      have HC := hide (fun W => compare_c (3 * T 0) 1 (num * (S - T 0)) den W (by omega) (by omega) (by omega) hd1 (by omega) (by omega) (by omega) (by omega))
      have hcl := cmpS_line (all := S) (t := T 0) (num := num) (den := den)
      cases hb : lineB S (T 0) num den
      · have HL : Hid (linTo S T num den (0 + 1) = linTo S T num den 0) := linTo_no hb
        rw [hb] at hcl
        clear hb
        generalize cmpS (3 * T 0) 1 (num * (S - T 0)) den = cs at HC hcl
        go_upto_region 7 with fail
        go_quiet (first | (go_at_call 78; exact quiet_eq (HC.out _)))
        go_wp2
        go_roundw
        case rel => exact ⟨0 + 1, by omega, rfl, below_drewN hbr _, _, by rw [HL.out]; exact hown⟩
        case measure => simp [intOf]
      · have HL : Hid (linTo S T num den (0 + 1) = linTo S T num den 0 ++ [(0 : Int)]) := linTo_yes hb
        rw [hb] at hcl
        clear hb
        generalize cmpS (3 * T 0) 1 (num * (S - T 0)) den = cs at HC hcl
        go_upto_region 7 with fail
        go_quiet (first | (go_at_call 78; exact quiet_eq (HC.out _)))
        have hbr := below_drewN hbr nq
        have hown : (wr.drewN nq).ownsRow WB.heap.size 3 1 _ _ (ints (linTo S T num den 0)) := hown
        obtain ⟨wn, hwn⟩ : ∃ wn, wr.drewN nq = wn := ⟨_, rfl⟩
        rw [hwn] at hbr hown ⊢
        clear hwn
        go_wp2_with (first | (at_builtin; refine wpList_append_own _ rfl _ _ 22 rfl WB.heap.size 3 i0 (.int .i64 0) 1 8 Tryd.underlying22 hi iz0 iz1 iz2 rfl (by decide) _ _ _ rfl (hown.alloc _) ⟨wn.heap.size, 0, none⟩ 1 1 [.int .i64 0] rfl rfl (cell_one_new _ _ _) (by simp [Value.oneCell']) (by unfold maxLen; omega) (by omega) (by have := hbr.size; simp; omega) ?_; intro v' w5 hown5 hg5 _))
        have hb5 : Below WB.heap.size WB w5 := (hbr.alloc hbr.size _).grown hg5 (by have := hbr.size; simp; omega) (fun j hj => (hown.lt j hj).1)
        go_roundw
        case rel => exact ⟨0 + 1, by omega, rfl, hb5, _, by rw [HL.out, ints_append]; exact hown5⟩
        case measure => simp [intOf]
    · skip
      obtain ⟨p1, p2⟩ := hPB.b 1 (by omega)
      have q := prod_bd p1 p2 hd1 hd2
      have r := prod_bd2 (s := S - T 1) (by have := HSum.out; omega) (by have := HSum.out; omega) hn1 hn2
      have m1 : IntKind.i64.wrap (3 * T 1) = 3 * T 1 := by simp (disch := omega) only [IntWalk.i64_in]
      have m3 : IntKind.i64.wrap (S - T 1) = S - T 1 := by have := HSum.out; simp (disch := omega) only [IntWalk.i64_in]
      have m4 : IntKind.i64.wrap (num * (S - T 1)) = num * (S - T 1) := by simp (disch := omega) only [IntWalk.i64_in]
      have hle := linTo_le S T num den 1
      have HC := hide (fun W => compare_c (3 * T 1) 1 (num * (S - T 1)) den W (by omega) (by omega) (by omega) hd1 (by omega) (by omega) (by omega) (by omega))
      have hcl := cmpS_line (all := S) (t := T 1) (num := num) (den := den)
      cases hb : lineB S (T 1) num den
      · have HL : Hid (linTo S T num den (1 + 1) = linTo S T num den 1) := linTo_no hb
        rw [hb] at hcl
        clear hb
        generalize cmpS (3 * T 1) 1 (num * (S - T 1)) den = cs at HC hcl
        go_upto_region 7 with fail
        go_quiet (first | (go_at_call 78; exact quiet_eq (HC.out _)))
        go_wp2
        go_roundw
        case rel => exact ⟨1 + 1, by omega, rfl, below_drewN hbr _, _, by rw [HL.out]; exact hown⟩
        case measure => simp [intOf]
      · have HL : Hid (linTo S T num den (1 + 1) = linTo S T num den 1 ++ [(1 : Int)]) := linTo_yes hb
        rw [hb] at hcl
        clear hb
        generalize cmpS (3 * T 1) 1 (num * (S - T 1)) den = cs at HC hcl
        go_upto_region 7 with fail
        go_quiet (first | (go_at_call 78; exact quiet_eq (HC.out _)))
        have hbr := below_drewN hbr nq
        have hown : (wr.drewN nq).ownsRow WB.heap.size 3 1 _ _ (ints (linTo S T num den 1)) := hown
        obtain ⟨wn, hwn⟩ : ∃ wn, wr.drewN nq = wn := ⟨_, rfl⟩
        rw [hwn] at hbr hown ⊢
        clear hwn
        go_wp2_with (first | (at_builtin; refine wpList_append_own _ rfl _ _ 22 rfl WB.heap.size 3 i0 (.int .i64 0) 1 8 Tryd.underlying22 hi iz0 iz1 iz2 rfl (by decide) _ _ _ rfl (hown.alloc _) ⟨wn.heap.size, 0, none⟩ 1 1 [.int .i64 1] rfl rfl (cell_one_new _ _ _) (by simp [Value.oneCell']) (by unfold maxLen; omega) (by omega) (by have := hbr.size; simp; omega) ?_; intro v' w5 hown5 hg5 _))
        have hb5 : Below WB.heap.size WB w5 := (hbr.alloc hbr.size _).grown hg5 (by have := hbr.size; simp; omega) (fun j hj => (hown.lt j hj).1)
        go_roundw
        case rel => exact ⟨1 + 1, by omega, rfl, hb5, _, by rw [HL.out, ints_append]; exact hown5⟩
        case measure => simp [intOf]
    · skip
      obtain ⟨p1, p2⟩ := hPB.b 2 (by omega)
      have q := prod_bd p1 p2 hd1 hd2
      have r := prod_bd2 (s := S - T 2) (by have := HSum.out; omega) (by have := HSum.out; omega) hn1 hn2
      have m1 : IntKind.i64.wrap (3 * T 2) = 3 * T 2 := by simp (disch := omega) only [IntWalk.i64_in]
      have m3 : IntKind.i64.wrap (S - T 2) = S - T 2 := by have := HSum.out; simp (disch := omega) only [IntWalk.i64_in]
      have m4 : IntKind.i64.wrap (num * (S - T 2)) = num * (S - T 2) := by simp (disch := omega) only [IntWalk.i64_in]
      have hle := linTo_le S T num den 2
      have HC := hide (fun W => compare_c (3 * T 2) 1 (num * (S - T 2)) den W (by omega) (by omega) (by omega) hd1 (by omega) (by omega) (by omega) (by omega))
      have hcl := cmpS_line (all := S) (t := T 2) (num := num) (den := den)
      cases hb : lineB S (T 2) num den
      · have HL : Hid (linTo S T num den (2 + 1) = linTo S T num den 2) := linTo_no hb
        rw [hb] at hcl
        clear hb
        generalize cmpS (3 * T 2) 1 (num * (S - T 2)) den = cs at HC hcl
        go_upto_region 7 with fail
        go_quiet (first | (go_at_call 78; exact quiet_eq (HC.out _)))
        go_wp2
        go_roundw
        case rel => exact ⟨2 + 1, by omega, rfl, below_drewN hbr _, _, by rw [HL.out]; exact hown⟩
        case measure => simp [intOf]
      · have HL : Hid (linTo S T num den (2 + 1) = linTo S T num den 2 ++ [(2 : Int)]) := linTo_yes hb
        rw [hb] at hcl
        clear hb
        generalize cmpS (3 * T 2) 1 (num * (S - T 2)) den = cs at HC hcl
        go_upto_region 7 with fail
        go_quiet (first | (go_at_call 78; exact quiet_eq (HC.out _)))
        have hbr := below_drewN hbr nq
        have hown : (wr.drewN nq).ownsRow WB.heap.size 3 1 _ _ (ints (linTo S T num den 2)) := hown
        obtain ⟨wn, hwn⟩ : ∃ wn, wr.drewN nq = wn := ⟨_, rfl⟩
        rw [hwn] at hbr hown ⊢
        clear hwn
        go_wp2_with (first | (at_builtin; refine wpList_append_own _ rfl _ _ 22 rfl WB.heap.size 3 i0 (.int .i64 0) 1 8 Tryd.underlying22 hi iz0 iz1 iz2 rfl (by decide) _ _ _ rfl (hown.alloc _) ⟨wn.heap.size, 0, none⟩ 1 1 [.int .i64 2] rfl rfl (cell_one_new _ _ _) (by simp [Value.oneCell']) (by unfold maxLen; omega) (by omega) (by have := hbr.size; simp; omega) ?_; intro v' w5 hown5 hg5 _))
        have hb5 : Below WB.heap.size WB w5 := (hbr.alloc hbr.size _).grown hg5 (by have := hbr.size; simp; omega) (fun j hj => (hown.lt j hj).1)
        go_roundw
        case rel => exact ⟨2 + 1, by omega, rfl, hb5, _, by rw [HL.out, ints_append]; exact hown5⟩
        case measure => simp [intOf]
    · skip
      obtain ⟨p1, p2⟩ := hPB.b 3 (by omega)
      have q := prod_bd p1 p2 hd1 hd2
      have r := prod_bd2 (s := S - T 3) (by have := HSum.out; omega) (by have := HSum.out; omega) hn1 hn2
      have m1 : IntKind.i64.wrap (3 * T 3) = 3 * T 3 := by simp (disch := omega) only [IntWalk.i64_in]
      have m3 : IntKind.i64.wrap (S - T 3) = S - T 3 := by have := HSum.out; simp (disch := omega) only [IntWalk.i64_in]
      have m4 : IntKind.i64.wrap (num * (S - T 3)) = num * (S - T 3) := by simp (disch := omega) only [IntWalk.i64_in]
      have hle := linTo_le S T num den 3
      have HC := hide (fun W => compare_c (3 * T 3) 1 (num * (S - T 3)) den W (by omega) (by omega) (by omega) hd1 (by omega) (by omega) (by omega) (by omega))
      have hcl := cmpS_line (all := S) (t := T 3) (num := num) (den := den)
      cases hb : lineB S (T 3) num den
      · have HL : Hid (linTo S T num den (3 + 1) = linTo S T num den 3) := linTo_no hb
        rw [hb] at hcl
        clear hb
        generalize cmpS (3 * T 3) 1 (num * (S - T 3)) den = cs at HC hcl
        go_upto_region 7 with fail
        go_quiet (first | (go_at_call 78; exact quiet_eq (HC.out _)))
        go_wp2
        go_roundw
        case rel => exact ⟨3 + 1, by omega, rfl, below_drewN hbr _, _, by rw [HL.out]; exact hown⟩
        case measure => simp [intOf]
      · have HL : Hid (linTo S T num den (3 + 1) = linTo S T num den 3 ++ [(3 : Int)]) := linTo_yes hb
        rw [hb] at hcl
        clear hb
        generalize cmpS (3 * T 3) 1 (num * (S - T 3)) den = cs at HC hcl
        go_upto_region 7 with fail
        go_quiet (first | (go_at_call 78; exact quiet_eq (HC.out _)))
        have hbr := below_drewN hbr nq
        have hown : (wr.drewN nq).ownsRow WB.heap.size 3 1 _ _ (ints (linTo S T num den 3)) := hown
        obtain ⟨wn, hwn⟩ : ∃ wn, wr.drewN nq = wn := ⟨_, rfl⟩
        rw [hwn] at hbr hown ⊢
        clear hwn
        go_wp2_with (first | (at_builtin; refine wpList_append_own _ rfl _ _ 22 rfl WB.heap.size 3 i0 (.int .i64 0) 1 8 Tryd.underlying22 hi iz0 iz1 iz2 rfl (by decide) _ _ _ rfl (hown.alloc _) ⟨wn.heap.size, 0, none⟩ 1 1 [.int .i64 3] rfl rfl (cell_one_new _ _ _) (by simp [Value.oneCell']) (by unfold maxLen; omega) (by omega) (by have := hbr.size; simp; omega) ?_; intro v' w5 hown5 hg5 _))
        have hb5 : Below WB.heap.size WB w5 := (hbr.alloc hbr.size _).grown hg5 (by have := hbr.size; simp; omega) (fun j hj => (hown.lt j hj).1)
        go_roundw
        case rel => exact ⟨3 + 1, by omega, rfl, hb5, _, by rw [HL.out, ints_append]; exact hown5⟩
        case measure => simp [intOf]
    · go_wp2
      go_ret
      exact ⟨⟨A', c', by rw [HSum.out]; rfl, by rw [HSum.out]; exact RdT.of_own hown⟩, bel_tr hBB hBB.size hbr⟩
end Go.Proofs.YtdpcehlakhahiaaDoor
