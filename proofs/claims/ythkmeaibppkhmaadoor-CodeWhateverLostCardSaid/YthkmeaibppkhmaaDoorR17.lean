/- Contracts: the sums of two lines, as the reference has them. -/
import Derived.Test.YthkmeaibppkhmaaDoorR16
namespace Go.Proofs.YthkmeaibppkhmaaDoor
open Go.RowKit
set_option maxRecDepth 100000



theorem refCombined_err (A MA B MB : Option Addr) (qa ra qb rb : Nat) (va vb : List (Int × Int)) (n m : Nat) (w : World) (hE : va.length ≠ vb.length) :
    Calls Tryd.prog 70 #[.agg #[.slice A va.length qa, .slice MA n ra], .agg #[.slice B vb.length qb, .slice MB m rb]] w fun r w' =>
      r = .returned (.tuple #[.agg #[.slice none 0 0, .slice none 0 0], .int .i64 13]) ∧ Below w.heap.size w w' := by
  have e1 : ((va.length : Int) != (vb.length : Int)) = true := by simp; omega
  have e2 : (va.length != vb.length) = true := by simpa using hE
  clear hE
  go_enter Tryd.func70, Tryd.ntmps70
  go_wp2
  refine bodyPost_ret (by simp [results, Tryd.results70, go_sem]; try rfl) rfl ?_
  exact ⟨rfl, ((alloc_bel _ _).alloc (by simp) _).alloc (by simp; omega) _⟩

set_option maxHeartbeats 4000000 in
theorem refCombined_sum (A MA B MB : Option Addr) (qa ra qb rb : Nat) (va vb : List (Int × Int)) (ma mb : List Int) (w : World) (hs : Rd w A (gs va)) (hr : Rd w MA (ints ma)) (hv : Rd w B (gs vb)) (hu : Rd w MB (ints mb)) (hA0 : lineE va ma = 0) (hB0 : lineE vb mb = 0) (hab : va.length = vb.length) :
    Calls Tryd.prog 70 #[.agg #[.slice A va.length qa, .slice MA ma.length ra], .agg #[.slice B vb.length qb, .slice MB mb.length rb]] w fun r w' =>
      ((bigB va vb ma mb va.length = true ∧ r = .returned (.tuple #[.agg #[.slice none 0 0, .slice none 0 0], .int .i64 8])) ∨
       (bigB va vb ma mb va.length = false ∧ ∃ (V M : Option Addr) (cV cM : Nat), r = .returned (.tuple #[.agg #[.slice V va.length cV, .slice M va.length cM], .int .i64 0]) ∧ RdT w' 76 V (gs (sumV va vb va.length)) ∧ RdT w' 3 M (ints (sumM ma mb va.length)))) ∧ Below w.heap.size w w' := by
  obtain ⟨i0, hi0, iz0, iz1, iz2⟩ := info_parts Tryd.info3
  obtain ⟨j0, hj0, jz0, jz1, jz2⟩ := info_parts Tryd.info76
  obtain ⟨hma, hn1, hn2, hia⟩ := lineE_zero hA0
  obtain ⟨hmb, _, _, hib⟩ := lineE_zero hB0
  have HL := hide (show vb.length = va.length ∧ ma.length = va.length ∧ mb.length = va.length from ⟨hab.symm, hma, by omega⟩)
  have HIA := hide hia
  have HIB := hide hib
  have e1 : ((va.length : Int) != (vb.length : Int)) = false := by simp; omega
  have e2 : (va.length != vb.length) = false := by simp; omega
  clear hab hma hmb hA0 hB0 hia hib
  go_enter Tryd.func70, Tryd.ntmps70
  go_wp2
  obtain ⟨V, hV⟩ : ∃ V, (((w.alloc (.cells #[.slice A va.length qa, .slice MA ma.length ra] 89)).alloc (.cells #[.slice B vb.length qb, .slice MB mb.length rb] 89)).alloc (.cells #[.slice none 0 0, .slice none 0 0] 89)).alloc (.cells #[.slice none 0 0, .slice none 0 0] 89) = V := ⟨_, rfl⟩
  have hwV : Below w.heap.size w V := by rw [← hV]; exact (((alloc_bel _ _).alloc (by simp) _).alloc (by simp; omega) _).alloc (by simp; omega) _
  have hXV : Blk V w.heap.size 89 [.slice A va.length qa, .slice MA ma.length ra] := by rw [← hV]; exact (((Blk.new w _ [_, _]).bel (alloc_bel _ _)).bel (alloc_bel _ _)).bel (alloc_bel _ _)
  have hYV : Blk V (w.heap.size + 1) 89 [.slice B vb.length qb, .slice MB mb.length rb] := by rw [← hV]; exact ((Blk.new2 w 89 89 [.slice A va.length qa, .slice MA ma.length ra] [.slice B vb.length qb, .slice MB mb.length rb]).bel (alloc_bel _ _)).bel (alloc_bel _ _)
  have hRV : Blk V (w.heap.size + 1 + 1) 89 [.slice none 0 0, .slice none 0 0] := by rw [← hV]; exact (Blk.new3 w 89 89 89 [.slice A va.length qa, .slice MA ma.length ra] [.slice B vb.length qb, .slice MB mb.length rb] [.slice none 0 0, .slice none 0 0]).bel (alloc_bel _ _)
  have hOV : Blk V (w.heap.size + 1 + 1 + 1) 89 [.slice none 0 0, .slice none 0 0] := by
    rw [← hV]
    have := Blk.new (((w.alloc (.cells #[.slice A va.length qa, .slice MA ma.length ra] 89)).alloc (.cells #[.slice B vb.length qb, .slice MB mb.length rb] 89)).alloc (.cells #[.slice none 0 0, .slice none 0 0] 89)) 89 [.slice none 0 0, .slice none 0 0]
    simpa using this
  have hzV : V.heap.size = w.heap.size + 4 := by rw [← hV]; simp
  rw [hV]
  clear hV
  obtain ⟨y, hy⟩ : ∃ y, w.heap.size + 1 = y := ⟨_, rfl⟩
  obtain ⟨r, hr1⟩ : ∃ r, y + 1 = r := ⟨_, rfl⟩
  obtain ⟨q, hq1⟩ : ∃ q, r + 1 = q := ⟨_, rfl⟩
  rw [hy] at hYV hRV hOV ⊢
  rw [hr1] at hRV hOV ⊢
  rw [hq1] at hOV ⊢
  have hwq0 : w.heap.size < q ∧ y < q ∧ r < q ∧ w.heap.size ≤ r ∧ V.heap.size = q + 1 := by omega
  clear hy hr1 hq1 hzV
  have HKB := hide (show ∀ e ∈ [(w.heap.size, 89, [Value.slice A va.length qa, .slice MA ma.length ra]), (y, 89, [Value.slice B vb.length qb, .slice MB mb.length rb]), (r, 89, [Value.slice none 0 0, .slice none 0 0])], e.1 < q ∧ Blk V e.1 e.2.1 e.2.2 from by
    intro e he
    simp only [List.mem_cons, List.not_mem_nil, or_false] at he
    rcases he with rfl | rfl | rfl
    · exact ⟨hwq0.1, hXV⟩
    · exact ⟨hwq0.2.1, hYV⟩
    · exact ⟨hwq0.2.2.1, hRV⟩)
  clear hXV hYV hRV
  obtain ⟨kb, hkb⟩ : ∃ kb, [(w.heap.size, 89, [Value.slice A va.length qa, .slice MA ma.length ra]), (y, 89, [Value.slice B vb.length qb, .slice MB mb.length rb]), (r, 89, [Value.slice none 0 0, .slice none 0 0])] = kb := ⟨_, rfl⟩
  rw [hkb] at HKB
  have HK1 : Hid ((w.heap.size, 89, [Value.slice A va.length qa, .slice MA ma.length ra]) ∈ kb) := by show _ ∈ _; rw [← hkb]; simp
  have HK2 : Hid ((y, 89, [Value.slice B vb.length qb, .slice MB mb.length rb]) ∈ kb) := by show _ ∈ _; rw [← hkb]; simp
  have HK3 : Hid ((r, 89, [Value.slice none 0 0, .slice none 0 0]) ∈ kb) := by show _ ∈ _; rw [← hkb]; simp
  clear hkb
  go_loopw [7] (fun t wr => ∃ (k : Nat) (Vv Mv : Value), k ≤ va.length ∧ t = .int .i64 k ∧ Below w.heap.size w wr ∧ (∀ e ∈ kb, e.1 < q ∧ Blk wr e.1 e.2.1 e.2.2) ∧ Blk wr q 89 [Vv, Mv] ∧
      wr.ownsRow (q + 1) 76 2 Vv k (gs (sumV va vb k)) ∧ wr.ownsRow (q + 1) 3 1 Mv k (ints (sumM ma mb k)) ∧ Hid (∀ j, j < k → bigK va vb ma mb j = false)) (fun t _ => va.length - (intOf t).toNat)
  case atStart => exact ⟨0, _, _, Nat.zero_le _, rfl, hwV, HKB.out, hOV, World.ownsRow_nil _ _ _ _, World.ownsRow_nil _ _ _ _, fun j hj => absurd hj (Nat.not_lt_zero _)⟩
  case round =>
    clear hOV hwV
    obtain ⟨k, Vv, Mv, hk, rfl, hwr, hbl, hOr, hVo, hMo, hall⟩ := hrel
    have hXr := (hbl _ HK1.out).2
    have hYr := (hbl _ HK2.out).2
    have hRr := (hbl _ HK3.out).2
    dsimp only at hXr hYr hRr
    have HBL := hide hbl
    clear hbl
    have c0 := hXr.cell 0; have c1 := hXr.cell 1; simp only [List.getElem?_cons_zero, List.getElem?_cons_succ] at c0 c1
    have y0 := hYr.cell 0; have y1 := hYr.cell 1; simp only [List.getElem?_cons_zero, List.getElem?_cons_succ] at y0 y1
    by_cases hlt : k < va.length
    · obtain ⟨l1, l2, l3⟩ := HL.out
      have hkb : k < vb.length := by omega
      have hkm : k < ma.length := by omega
      have hkn : k < mb.length := by omega
      obtain ⟨bA, oA, rfl, hbA, a0, a1⟩ := (hs.bel hwr).g_at hlt
      obtain ⟨bB, oB, rfl, hbB, b0, b1⟩ := (hv.bel hwr).g_at hkb
      obtain ⟨bM, oM, rfl, hbM, m0⟩ := (hr.bel hwr).int_at hkm
      obtain ⟨bN, oN, rfl, hbN, n0⟩ := (hu.bel hwr).int_at hkn
      have hS : Hid (sumK va vb k = (va[k].1 + vb[k].1, va[k].2 + vb[k].2)) := by
        show _ = _
        simp only [sumK, gadd, List.getD, List.getElem?_eq_getElem hlt, List.getElem?_eq_getElem hkb, Option.getD_some]
      have hD : Hid (missK ma mb k = ma[k] + mb[k]) := by
        show _ = _
        simp only [missK, List.getD, List.getElem?_eq_getElem hkm, List.getElem?_eq_getElem hkn, Option.getD_some]
      have hbd := lineItem_zero (HIA.out k hlt)
      have hbe := lineItem_zero (HIB.out k hkb)
      rw [show ma.getD k 0 = ma[k] by simp [List.getD, hkm]] at hbd
      rw [show mb.getD k 0 = mb[k] by simp [List.getD, hkn]] at hbe
      have HBG : Hid (bigK va vb ma mb k = (beyB (sumK va vb k) 1000000000 || decide (64 < missK ma mb k))) := rfl
      have HCV : Hid (sumV va vb (k + 1) = sumV va vb k ++ [sumK va vb k]) := sumV_succ va vb k
      have HCM : Hid (sumM ma mb (k + 1) = sumM ma mb k ++ [missK ma mb k]) := sumM_succ ma mb k
      rw [hS.out] at HBG HCV
      rw [hD.out] at HBG HCM
      clear hS hD
      generalize va[k] = ga at a0 a1 HBG HCV hbd
      generalize vb[k] = gb at b0 b1 HBG HCV hbe
      generalize ma[k] = na at m0 HBG HCM hbd
      generalize mb[k] = nb at n0 HBG HCM hbe
      obtain ⟨xa, ya⟩ := ga
      obtain ⟨xb, yb⟩ := gb
      obtain ⟨⟨q1, q2, q3, q4⟩, q5, q6⟩ := hbd
      obtain ⟨⟨r1, r2, r3, r4⟩, r5, r6⟩ := hbe
      dsimp only at a0 a1 b0 b1 q1 q2 q3 q4 r1 r2 r3 r4 HBG HCV
      have s3 : IntKind.i64.wrap (na + nb) = na + nb := by simp (disch := omega) only [IntWalk.i64_in]
      have HG := hide (fun W => gadd_c (xa, ya) (xb, yb) W (by dsimp only; omega) (by dsimp only; omega))
      dsimp only [gadd] at HG
      have hsx : -2000000000 ≤ xa + xb ∧ xa + xb ≤ 2000000000 := by omega
      have hsy : -2000000000 ≤ ya + yb ∧ ya + yb ≤ 2000000000 := by omega
      have hsm : 0 ≤ na + nb ∧ na + nb ≤ 128 := by omega
      have ix0 : (0 : Int) ≤ (k : Int) := by omega
      have ix1 : (k : Int) < (va.length : Int) := by omega
      have ix2 : (k : Int) < (vb.length : Int) := by omega
      have ix3 : (k : Int) < (ma.length : Int) := by omega
      have ix4 : (k : Int) < (mb.length : Int) := by omega
      have hxl := hXr.lt
      have hyl := hYr.lt
      clear q1 q2 q3 q4 q5 q6 r1 r2 r3 r4 l1 l2 l3
      go_upto_region 7 with fail
      have hN := Blk.new wr 76 [.int .i64 0, .int .i64 0]
      have hAl : Below wr.heap.size wr (wr.alloc (.cells #[.int .i64 0, .int .i64 0] 76)).drew := (alloc_bel wr _).drew
      have hAs : wr.heap.size ≤ (wr.alloc (.cells #[.int .i64 0, .int .i64 0] 76)).drew.heap.size := hAl.size
      go_cut [8, 9] from 25 to 46 (fun t8 t9 wx => ∃ g : Nat, t8 = .pointer (some ⟨g, 0, none⟩) ∧ t9 = .int .i64 (na + nb) ∧ wr.heap.size ≤ g ∧ Blk wx g 76 [.int .i64 (xa + xb), .int .i64 (ya + yb)] ∧ Below wr.heap.size wr wx)
      case first =>
        clear hXr hYr hRr hOr hVo hMo
        go_region_held3 (fun w' => (∀ b o, b < wr.heap.size → w'.cell? ⟨b, o, none⟩ = wr.cell? ⟨b, o, none⟩) ∧ Below wr.heap.size wr w')
          (first | with_reducible exact kp_refl wr | with_reducible exact kp hAl | with_reducible exact kp HB1.out | with_reducible exact kp (bel_alloc HB1.out HB1.out.size _) | with_reducible exact kp ((HB1.out.setCell (p := ⟨wr.heap.size, 0, none⟩) (Nat.le_refl _) _).setCell (p := ⟨wr.heap.size, 1, none⟩) (Nat.le_refl _) _))
          (first | (go_at_call 80; refine (HG.out _).mono ?_; rintro e w1 ⟨rfl, hb1⟩; first
            | (have HB1 := hide (bel_tr hAl hAs hb1); have hG1 : Blk w1 wr.heap.size 76 [.int .i64 0, .int .i64 0] := (show Blk (wr.alloc (.cells #[.int .i64 0, .int .i64 0] 76)).drew wr.heap.size 76 [.int .i64 0, .int .i64 0] from hN).bel hb1; have z0 := hG1.cell 0; have z1 := hG1.cell 1; simp only [List.getElem?_cons_zero, List.getElem?_cons_succ] at z0 z1; have f0 := hG1.frozen 0; have f1 := hG1.frozen 1)
            | (have HB1 := hide (bel_tr ((Below.refl wr.heap.size wr).drew) (Nat.le_refl _) hb1))))
        · go_wp2
          go_meet
          exact ⟨_, rfl, rfl, HB1.out.size, Blk.new w1 _ [_, _], bel_alloc HB1.out HB1.out.size _⟩
        · go_wp2
          go_meet
          exact ⟨_, rfl, rfl, Nat.le_refl _, (hG1.set_ 0 _).set_ 1 _, (HB1.out.setCell (p := ⟨wr.heap.size, 0, none⟩) (Nat.le_refl _) _).setCell (p := ⟨wr.heap.size, 1, none⟩) (Nat.le_refl _) _⟩
      case rest =>
        obtain ⟨g, rfl, rfl, hgg, hG7, hB7⟩ := hcut
        have hXc := hXr.bel hB7
        have hYc := hYr.bel hB7
        have hRc := hRr.bel hB7
        have hOc := hOr.bel hB7
        have hVc := ownsRow_bel hVo hB7
        have hMc := ownsRow_bel hMo hB7
        have hwc := bel_tr hwr hwr.size hB7
        have hbc : ∀ e ∈ kb, e.1 < q ∧ Blk wc e.1 e.2.1 e.2.2 := fun e he => ⟨(HBL.out e he).1, (HBL.out e he).2.bel hB7⟩
        have HBC := hide hbc
        have hVlt : ∀ b, Vv.ownBlock = some b → b < wr.heap.size := fun b hb => (hVo.lt b hb).2
        have hOlt := hOr.lt
        clear hXr hYr hRr hOr hVo hMo hN hAl hAs HG hwr hB7 HBL hbc
        clear a0 a1 b0 b1 m0 n0 c0 c1 y0 y1
        have z0 := hG7.cell 0; have z1 := hG7.cell 1; simp only [List.getElem?_cons_zero, List.getElem?_cons_succ] at z0 z1
        generalize xa + xb = sx at hG7 HBG HCV hsx z0
        generalize ya + yb = sy at hG7 HBG HCV hsy z1
        generalize na + nb = sm at HBG HCM hsm ⊢
        have HBy := hide (fun W => isPart_c sx sy 1000000000 W (by omega) (by omega))
        generalize beyB (sx, sy) 1000000000 = be at HBy HBG
        cases be
        · by_cases hm : 64 < sm
          · have dm : decide ((64 : Int) < sm) = true := by simpa using hm
            have hbig : bigK va vb ma mb k = true := by rw [HBG.out, dm]; rfl
            clear HBG
            go_upto_region 9 with (first | (go_at_call 116; refine (HBy.out _).mono ?_; rintro e w8 ⟨rfl, hb8⟩))
            have hRz := hRc.bel hb8
            have hwz := bel_tr hwc hwc.size hb8
            have d0 := hRz.cell 0; have d1 := hRz.cell 1; simp only [List.getElem?_cons_zero, List.getElem?_cons_succ] at d0 d1
            have f0 := hRz.frozen 0
            have f1 := hRz.frozen 1
            go_wp2
            obtain ⟨WE, hWE⟩ : ∃ WE, (w8.setCell ⟨r, 0, none⟩ (.slice none 0 0)).setCell ⟨r, 1, none⟩ (.slice none 0 0) = WE := ⟨_, rfl⟩
            rw [hWE]
            have hE' : Blk WE r 89 [.slice none 0 0, .slice none 0 0] := by rw [← hWE]; exact (hRz.set_ 0 _).set_ 1 _
            have hBE : Below w.heap.size w WE := by
              rw [← hWE]
              exact (hwz.setCell (by show w.heap.size ≤ r; omega) _).setCell (by show w.heap.size ≤ r; omega) _
            have g0 := hE'.cell 0
            have g1 := hE'.cell 1
            simp only [List.getElem?_cons_zero, List.getElem?_cons_succ] at g0 g1
            clear hWE
            try simp only [Exit.inBlock, Exit.then]
            refine bodyPost_ret (by simp [results, Tryd.results70, go_sem, g0, g1]; try rfl) rfl ?_
            exact ⟨.inl ⟨bigB_at hlt hbig, rfl⟩, hBE⟩
          · have dm : decide ((64 : Int) < sm) = false := by simpa using hm
            have hnx : Hid (∀ j, j < k + 1 → bigK va vb ma mb j = false) := fun j hj => by
              by_cases e : j = k
              · rw [e, HBG.out, dm]; rfl
              · exact hall.out j (by omega)
            clear HBG hall
            go_upto_region 10 with (first | (go_at_call 116; refine (HBy.out _).mono ?_; rintro e w8 ⟨rfl, hb8⟩))
            have hLJ0 : LJ w wc q g kb sx sy Vv Mv Vv Mv k k (gs (sumV va vb k)) (ints (sumM ma mb k)) :=
              ⟨hwc, ⟨by omega, by omega⟩, HBC.out, hOc, hG7, hVc, hMc, fun b hb => by have := hVlt b hb; omega⟩
            have hLJ := hLJ0.below hb8
            clear hLJ0 hwc hOc hG7 hVc hMc hXc hYc hRc HBC z0 z1 HBy hb8 hVlt
            generalize sumV va vb k = LV at hLJ HCV
            generalize sumM ma mb k = LM at hLJ HCM
            refine wp_region_M (fun w' => w'.cell? ⟨q, 0, none⟩ = some Vv ∧ w'.cell? ⟨q, 1, none⟩ = some Mv ∧ w'.cell? ⟨g, 0, none⟩ = some (.int .i64 sx) ∧ w'.cell? ⟨g, 1, none⟩ = some (.int .i64 sy)) 11 (by kernel_rfl) ?_
            have hL0 := hLJ.drew
            have hS0 := hL0.cells
            refine AnyM.take (i := 0) (v := ?_) rfl (by kernel_rfl) (by kernel_rfl) (by kernel_rfl) (by kernel_rfl) (fun _ _ _ h => h) (Or.inl ⟨by rfl, ?_⟩) (by assumption) ?_
            rotate_left 1
            · (intro w hSw; (try dsimp only at hSw); go_simp <;> with_reducible rfl)
            try simp only [Act.put]
            refine AnyM.take (i := 1) (v := ?_) rfl (by kernel_rfl) (by kernel_rfl) (by kernel_rfl) (by kernel_rfl) (fun _ _ _ h => h) (Or.inl ⟨by rfl, ?_⟩) (by assumption) ?_
            rotate_left 1
            · (intro w hSw; (try dsimp only at hSw); go_simp <;> with_reducible rfl)
            try simp only [Act.put]
            refine AnyM.take (i := 2) (v := ?_) rfl (by kernel_rfl) (by kernel_rfl) (by kernel_rfl) (by kernel_rfl) (fun _ _ _ h => h) (Or.inl ⟨by rfl, ?_⟩) (by assumption) ?_
            rotate_left 1
            · (intro w hSw; (try dsimp only at hSw); go_simp <;> with_reducible rfl)
            try simp only [Act.put]
            refine AnyM.take (i := 5) (v := ?_) rfl (by kernel_rfl) (by kernel_rfl) (by kernel_rfl) (by kernel_rfl) (fun _ _ _ h => h) (Or.inl ⟨by rfl, ?_⟩) (by assumption) ?_
            rotate_left 1
            · (intro w hSw; (try dsimp only at hSw); go_simp <;> with_reducible rfl)
            try simp only [Act.put]
            refine AnyM.take (i := 6) (v := ?_) rfl (by kernel_rfl) (by kernel_rfl) (by kernel_rfl) (by kernel_rfl) (fun _ _ _ h => h) (Or.inl ⟨by rfl, ?_⟩) (by assumption) ?_
            rotate_left 1
            · (intro w hSw; (try dsimp only at hSw); go_simp <;> with_reducible rfl)
            try simp only [Act.put]
            refine AnyM.takeAny (i := 7) (v := ?_) rfl (by kernel_rfl) (by kernel_rfl) (by kernel_rfl) (by kernel_rfl) (fun _ _ _ h => h) (Or.inl ⟨by rfl, ?_⟩) (fun h => by first | assumption | exact Bool.noConfusion (h.symm.trans (by kernel_rfl : _ = true))) ?_
            rotate_left 1
            · (intro w _; go_simp <;> with_reducible rfl)
            try simp only [Act.put]
            refine AnyM.next [3, 8] (by kernel_rfl) (by simp) ?_
            refine NextM.cons rfl (fun K hK => ?_) (NextM.cons rfl (fun K hK => ?_) NextM.nil)
            · go_simp
              have h1 := hL0.alloc (.cells #[.int .i64 sx, .int .i64 sy] 76)
              have bV1 : Blk (w8.drew.alloc (.cells #[.int .i64 sx, .int .i64 sy] 76)) w8.heap.size 76 [.int .i64 sx, .int .i64 sy] := Blk.new w8.drew _ [_, _]
              have hS1 := h1.cells
              try dsimp only
              refine hK.out _ _ (fun _ => hS1) ?_
              clear hK K
              try simp only [Act.put]
              refine AnyM.next [4, 8] (by kernel_rfl) (by simp) ?_
              refine NextM.cons rfl (fun K hK => ?_) (NextM.cons rfl (fun K hK => ?_) NextM.nil)
              · skip
                refine step_append_lies _ (by rfl) _ _ _ (by rfl) (q + 1) 76 j0 _ 2 16 Tryd.underlying30 hj0 jz0 jz1 jz2 rfl (by decide) Vv k (gs LV) (by rfl) h1.va ⟨_, 0, none⟩ 1 1 [.int .i64 sx, .int .i64 sy] (by rfl) rfl (World.news_of_block bV1) (by simp [Value.oneCell']) (by decide) (by unfold maxLen; omega) (by omega) (Nat.succ_le_of_lt h1.ou.lt) _ rfl ?_
                intro gv cv Wv hov hgv hatv hltv
                have h2 := h1.appV hov hgv (fun b hb => by
                  have e : gv = b := by simpa [Value.ownBlock] using hb
                  subst e
                  rcases hatv with e | e
                  · exact .inl e
                  · exact .inr (by rw [e]; simp))
                have hS2 := h2.cells
                try dsimp only
                refine hK.out _ _ (fun _ => hS2) ?_
                clear hK K
                try simp only [Act.put]
                -- the second element, the second append
                refine AnyM.takeAny (i := 10) (v := ?_) rfl (by kernel_rfl) (by kernel_rfl) (by kernel_rfl) (by kernel_rfl) (fun _ _ _ h => h) (Or.inl ⟨by rfl, ?_⟩) (fun h => by first | assumption | exact Bool.noConfusion (h.symm.trans (by kernel_rfl : _ = true))) ?_
                rotate_left 1
                · (intro w _; go_simp <;> with_reducible rfl)
                try simp only [Act.put]
                refine AnyM.next [8] (by kernel_rfl) (by simp) ?_
                refine NextM.cons rfl (fun K hK => ?_) NextM.nil
                go_simp
                have h3 := h2.alloc (.cells #[.int .i64 sm] 3)
                have bM3 : Blk (Wv.alloc (.cells #[.int .i64 sm] 3)) Wv.heap.size 3 [.int .i64 sm] := Blk.new Wv _ [_]
                have hS3 := h3.cells
                try dsimp only
                refine hK.out _ _ (fun _ => hS3) ?_
                clear hK K
                try simp only [Act.put]
                refine AnyM.next [9] (by kernel_rfl) (by simp) ?_
                refine NextM.cons rfl (fun K hK => ?_) NextM.nil
                refine step_append_lies _ (by rfl) _ _ _ (by rfl) (q + 1) 3 i0 (.int .i64 0) 1 8 Tryd.underlying22 hi0 iz0 iz1 iz2 rfl (by decide) Mv k (ints LM) (by rfl) h3.mi ⟨_, 0, none⟩ 1 1 [.int .i64 sm] (by rfl) rfl (World.news_of_block bM3) (by simp [Value.oneCell']) (by decide) (by unfold maxLen; omega) (by omega) (Nat.succ_le_of_lt h3.ou.lt) _ rfl ?_
                intro gm cm Wm hom hgm hatm hltm
                have h4 := h3.appM hom hgm
                have hS4 := h4.cells
                try dsimp only
                refine hK.out _ _ (fun _ => hS4) ?_
                clear hK K
                try simp only [Act.put]
                refine AnyM.next [11] (by kernel_rfl) (by simp) ?_
                refine NextM.cons rfl (fun K hK => ?_) NextM.nil
                have y0 := h4.ou.cell 0
                have y1 := h4.ou.cell 1
                simp only [List.getElem?_cons_zero, List.getElem?_cons_succ] at y0 y1
                have f0 := h4.ou.frozen 0
                have f1 := h4.ou.frozen 1
                go_simp
                refine hK.out _ _ (fun h => by simp at h) ?_
                clear hK K
                try simp only [Act.put]
                refine AnyM.takeAny (i := 12) (v := ?_) rfl (by kernel_rfl) (by kernel_rfl) (by kernel_rfl) (by kernel_rfl) (fun _ _ _ h => h) (Or.inl ⟨by rfl, ?_⟩) (fun h => by first | assumption | exact Bool.noConfusion (h.symm.trans (by kernel_rfl : _ = true))) ?_
                rotate_left 1
                · (intro w _; go_simp <;> with_reducible rfl)
                try simp only [Act.put]
                refine AnyM.next [13] (by kernel_rfl) (by simp) ?_
                refine NextM.cons rfl (fun K hK => ?_) NextM.nil
                go_simp
                refine hK.out _ _ (fun h => by simp at h) ?_
                clear hK K
                try simp only [Act.put]
                refine AnyM.done (by kernel_rfl) ?_ _
                have hE := h4.store
                generalize World.setCell (World.setCell Wm ⟨q, 0, none⟩ _) ⟨q, 1, none⟩ _ = WE at hE ⊢
                have e1 := hE.bel
                have e2 := hE.bl
                have e4 := hE.ou
                have e5 := hE.va
                have e6 := hE.mi
                rw [show gs LV ++ [.int .i64 sx, .int .i64 sy] = gs (LV ++ [(sx, sy)]) from (gs_append LV [(sx, sy)]).symm, ← HCV.out] at e5
                rw [show ints LM ++ [.int .i64 sm] = ints (LM ++ [sm]) from (ints_append LM [sm]).symm, ← HCM.out] at e6
                go_wp2
                go_roundw
                case rel => exact ⟨k + 1, _, _, by omega, by go_num, e1, e2, e4, e5, e6, hnx.out⟩
                case measure => simp [intOf]; omega
              · go_simp
                have h2 := h1.alloc (.cells #[.int .i64 sm] 3)
                have bM2 : Blk ((w8.drew.alloc (.cells #[.int .i64 sx, .int .i64 sy] 76)).alloc (.cells #[.int .i64 sm] 3)) (w8.heap.size + 1) 3 [.int .i64 sm] := by
                  have := Blk.new (w8.drew.alloc (.cells #[.int .i64 sx, .int .i64 sy] 76)) 3 [.int .i64 sm]
                  simpa using this
                have bV2 := bV1.bel (alloc_bel _ (.cells #[.int .i64 sm] 3))
                have hS2 := h2.cells
                try dsimp only
                refine hK.out _ _ (fun _ => hS2) ?_
                clear hK K
                try simp only [Act.put]
                refine AnyM.next [4] (by kernel_rfl) (by simp) ?_
                refine NextM.cons rfl (fun K hK => ?_) NextM.nil
                refine step_append_lies _ (by rfl) _ _ _ (by rfl) (q + 1) 76 j0 _ 2 16 Tryd.underlying30 hj0 jz0 jz1 jz2 rfl (by decide) Vv k (gs LV) (by rfl) h2.va ⟨_, 0, none⟩ 1 1 [.int .i64 sx, .int .i64 sy] (by rfl) rfl (World.news_of_block bV2) (by simp [Value.oneCell']) (by decide) (by unfold maxLen; omega) (by omega) (Nat.succ_le_of_lt h2.ou.lt) _ rfl ?_
                intro gv cv Wv hov hgv hatv hltv
                have h3 := h2.appV hov hgv (fun b hb => by
                  have e : gv = b := by simpa [Value.ownBlock] using hb
                  subst e
                  rcases hatv with e | e
                  · exact .inl e
                  · exact .inr (by rw [e]; simp))
                have bM3 := bM2.kept hgv (own_ne h2.va bM2 (by decide))
                have hS3 := h3.cells
                try dsimp only
                refine hK.out _ _ (fun _ => hS3) ?_
                clear hK K
                try simp only [Act.put]
                refine AnyM.takeAny (i := 10) (v := ?_) rfl (by kernel_rfl) (by kernel_rfl) (by kernel_rfl) (by kernel_rfl) (fun _ _ _ h => h) (Or.inl ⟨by rfl, ?_⟩) (fun h => by first | assumption | exact Bool.noConfusion (h.symm.trans (by kernel_rfl : _ = true))) ?_
                rotate_left 1
                · (intro w _; go_simp <;> with_reducible rfl)
                try simp only [Act.put]
                refine AnyM.next [9] (by kernel_rfl) (by simp) ?_
                refine NextM.cons rfl (fun K hK => ?_) NextM.nil
                refine step_append_lies _ (by rfl) _ _ _ (by rfl) (q + 1) 3 i0 (.int .i64 0) 1 8 Tryd.underlying22 hi0 iz0 iz1 iz2 rfl (by decide) Mv k (ints LM) (by rfl) h3.mi ⟨_, 0, none⟩ 1 1 [.int .i64 sm] (by rfl) rfl (World.news_of_block bM3) (by simp [Value.oneCell']) (by decide) (by unfold maxLen; omega) (by omega) (Nat.succ_le_of_lt h3.ou.lt) _ rfl ?_
                intro gm cm Wm hom hgm hatm hltm
                have h4 := h3.appM hom hgm
                have hS4 := h4.cells
                try dsimp only
                refine hK.out _ _ (fun _ => hS4) ?_
                clear hK K
                try simp only [Act.put]
                refine AnyM.next [11] (by kernel_rfl) (by simp) ?_
                refine NextM.cons rfl (fun K hK => ?_) NextM.nil
                have y0 := h4.ou.cell 0
                have y1 := h4.ou.cell 1
                simp only [List.getElem?_cons_zero, List.getElem?_cons_succ] at y0 y1
                have f0 := h4.ou.frozen 0
                have f1 := h4.ou.frozen 1
                go_simp
                refine hK.out _ _ (fun h => by simp at h) ?_
                clear hK K
                try simp only [Act.put]
                refine AnyM.takeAny (i := 12) (v := ?_) rfl (by kernel_rfl) (by kernel_rfl) (by kernel_rfl) (by kernel_rfl) (fun _ _ _ h => h) (Or.inl ⟨by rfl, ?_⟩) (fun h => by first | assumption | exact Bool.noConfusion (h.symm.trans (by kernel_rfl : _ = true))) ?_
                rotate_left 1
                · (intro w _; go_simp <;> with_reducible rfl)
                try simp only [Act.put]
                refine AnyM.next [13] (by kernel_rfl) (by simp) ?_
                refine NextM.cons rfl (fun K hK => ?_) NextM.nil
                go_simp
                refine hK.out _ _ (fun h => by simp at h) ?_
                clear hK K
                try simp only [Act.put]
                refine AnyM.done (by kernel_rfl) ?_ _
                have hE := h4.store
                generalize World.setCell (World.setCell Wm ⟨q, 0, none⟩ _) ⟨q, 1, none⟩ _ = WE at hE ⊢
                have e1 := hE.bel
                have e2 := hE.bl
                have e4 := hE.ou
                have e5 := hE.va
                have e6 := hE.mi
                rw [show gs LV ++ [.int .i64 sx, .int .i64 sy] = gs (LV ++ [(sx, sy)]) from (gs_append LV [(sx, sy)]).symm, ← HCV.out] at e5
                rw [show ints LM ++ [.int .i64 sm] = ints (LM ++ [sm]) from (ints_append LM [sm]).symm, ← HCM.out] at e6
                go_wp2
                go_roundw
                case rel => exact ⟨k + 1, _, _, by omega, by go_num, e1, e2, e4, e5, e6, hnx.out⟩
                case measure => simp [intOf]; omega
            · go_simp
              have h1 := hL0.alloc (.cells #[.int .i64 sm] 3)
              have bM1 : Blk (w8.drew.alloc (.cells #[.int .i64 sm] 3)) w8.heap.size 3 [.int .i64 sm] := Blk.new w8.drew _ [_]
              have hS1 := h1.cells
              try dsimp only
              refine hK.out _ _ (fun _ => hS1) ?_
              clear hK K
              try simp only [Act.put]
              refine AnyM.next [3] (by kernel_rfl) (by simp) ?_
              refine NextM.cons rfl (fun K hK => ?_) NextM.nil
              go_simp
              have h2 := h1.alloc (.cells #[.int .i64 sx, .int .i64 sy] 76)
              have bV2 : Blk ((w8.drew.alloc (.cells #[.int .i64 sm] 3)).alloc (.cells #[.int .i64 sx, .int .i64 sy] 76)) (w8.heap.size + 1) 76 [.int .i64 sx, .int .i64 sy] := by
                have := Blk.new (w8.drew.alloc (.cells #[.int .i64 sm] 3)) 76 [.int .i64 sx, .int .i64 sy]
                simpa using this
              have bM2 := bM1.bel (alloc_bel _ (.cells #[.int .i64 sx, .int .i64 sy] 76))
              have hS2 := h2.cells
              try dsimp only
              refine hK.out _ _ (fun _ => hS2) ?_
              clear hK K
              try simp only [Act.put]
              refine AnyM.next [4] (by kernel_rfl) (by simp) ?_
              refine NextM.cons rfl (fun K hK => ?_) NextM.nil
              refine step_append_lies _ (by rfl) _ _ _ (by rfl) (q + 1) 76 j0 _ 2 16 Tryd.underlying30 hj0 jz0 jz1 jz2 rfl (by decide) Vv k (gs LV) (by rfl) h2.va ⟨_, 0, none⟩ 1 1 [.int .i64 sx, .int .i64 sy] (by rfl) rfl (World.news_of_block bV2) (by simp [Value.oneCell']) (by decide) (by unfold maxLen; omega) (by omega) (Nat.succ_le_of_lt h2.ou.lt) _ rfl ?_
              intro gv cv Wv hov hgv hatv hltv
              have h3 := h2.appV hov hgv (fun b hb => by
                have e : gv = b := by simpa [Value.ownBlock] using hb
                subst e
                rcases hatv with e | e
                · exact .inl e
                · exact .inr (by rw [e]; simp))
              have bM3 := bM2.kept hgv (own_ne h2.va bM2 (by decide))
              have hS3 := h3.cells
              try dsimp only
              refine hK.out _ _ (fun _ => hS3) ?_
              clear hK K
              try simp only [Act.put]
              refine AnyM.takeAny (i := 10) (v := ?_) rfl (by kernel_rfl) (by kernel_rfl) (by kernel_rfl) (by kernel_rfl) (fun _ _ _ h => h) (Or.inl ⟨by rfl, ?_⟩) (fun h => by first | assumption | exact Bool.noConfusion (h.symm.trans (by kernel_rfl : _ = true))) ?_
              rotate_left 1
              · (intro w _; go_simp <;> with_reducible rfl)
              try simp only [Act.put]
              refine AnyM.next [9] (by kernel_rfl) (by simp) ?_
              refine NextM.cons rfl (fun K hK => ?_) NextM.nil
              refine step_append_lies _ (by rfl) _ _ _ (by rfl) (q + 1) 3 i0 (.int .i64 0) 1 8 Tryd.underlying22 hi0 iz0 iz1 iz2 rfl (by decide) Mv k (ints LM) (by rfl) h3.mi ⟨_, 0, none⟩ 1 1 [.int .i64 sm] (by rfl) rfl (World.news_of_block bM3) (by simp [Value.oneCell']) (by decide) (by unfold maxLen; omega) (by omega) (Nat.succ_le_of_lt h3.ou.lt) _ rfl ?_
              intro gm cm Wm hom hgm hatm hltm
              have h4 := h3.appM hom hgm
              have hS4 := h4.cells
              try dsimp only
              refine hK.out _ _ (fun _ => hS4) ?_
              clear hK K
              try simp only [Act.put]
              refine AnyM.next [11] (by kernel_rfl) (by simp) ?_
              refine NextM.cons rfl (fun K hK => ?_) NextM.nil
              have y0 := h4.ou.cell 0
              have y1 := h4.ou.cell 1
              simp only [List.getElem?_cons_zero, List.getElem?_cons_succ] at y0 y1
              have f0 := h4.ou.frozen 0
              have f1 := h4.ou.frozen 1
              go_simp
              refine hK.out _ _ (fun h => by simp at h) ?_
              clear hK K
              try simp only [Act.put]
              refine AnyM.takeAny (i := 12) (v := ?_) rfl (by kernel_rfl) (by kernel_rfl) (by kernel_rfl) (by kernel_rfl) (fun _ _ _ h => h) (Or.inl ⟨by rfl, ?_⟩) (fun h => by first | assumption | exact Bool.noConfusion (h.symm.trans (by kernel_rfl : _ = true))) ?_
              rotate_left 1
              · (intro w _; go_simp <;> with_reducible rfl)
              try simp only [Act.put]
              refine AnyM.next [13] (by kernel_rfl) (by simp) ?_
              refine NextM.cons rfl (fun K hK => ?_) NextM.nil
              go_simp
              refine hK.out _ _ (fun h => by simp at h) ?_
              clear hK K
              try simp only [Act.put]
              refine AnyM.done (by kernel_rfl) ?_ _
              have hE := h4.store
              generalize World.setCell (World.setCell Wm ⟨q, 0, none⟩ _) ⟨q, 1, none⟩ _ = WE at hE ⊢
              have e1 := hE.bel
              have e2 := hE.bl
              have e4 := hE.ou
              have e5 := hE.va
              have e6 := hE.mi
              rw [show gs LV ++ [.int .i64 sx, .int .i64 sy] = gs (LV ++ [(sx, sy)]) from (gs_append LV [(sx, sy)]).symm, ← HCV.out] at e5
              rw [show ints LM ++ [.int .i64 sm] = ints (LM ++ [sm]) from (ints_append LM [sm]).symm, ← HCM.out] at e6
              go_wp2
              go_roundw
              case rel => exact ⟨k + 1, _, _, by omega, by go_num, e1, e2, e4, e5, e6, hnx.out⟩
              case measure => simp [intOf]; omega
        · have hbig : bigK va vb ma mb k = true := by rw [HBG.out]; rfl
          clear HBG
          go_upto_region 9 with (first | (go_at_call 116; refine (HBy.out _).mono ?_; rintro e w8 ⟨rfl, hb8⟩))
          have hRz := hRc.bel hb8
          have hwz := bel_tr hwc hwc.size hb8
          have d0 := hRz.cell 0; have d1 := hRz.cell 1; simp only [List.getElem?_cons_zero, List.getElem?_cons_succ] at d0 d1
          have f0 := hRz.frozen 0
          have f1 := hRz.frozen 1
          go_wp2
          obtain ⟨WE, hWE⟩ : ∃ WE, (w8.setCell ⟨r, 0, none⟩ (.slice none 0 0)).setCell ⟨r, 1, none⟩ (.slice none 0 0) = WE := ⟨_, rfl⟩
          rw [hWE]
          have hE' : Blk WE r 89 [.slice none 0 0, .slice none 0 0] := by rw [← hWE]; exact (hRz.set_ 0 _).set_ 1 _
          have hBE : Below w.heap.size w WE := by
            rw [← hWE]
            exact (hwz.setCell (by show w.heap.size ≤ r; omega) _).setCell (by show w.heap.size ≤ r; omega) _
          have g0 := hE'.cell 0
          have g1 := hE'.cell 1
          simp only [List.getElem?_cons_zero, List.getElem?_cons_succ] at g0 g1
          clear hWE
          try simp only [Exit.inBlock, Exit.then]
          refine bodyPost_ret (by simp [results, Tryd.results70, go_sem, g0, g1]; try rfl) rfl ?_
          exact ⟨.inl ⟨bigB_at hlt hbig, rfl⟩, hBE⟩
    · obtain rfl : k = va.length := by omega
      have hnone : bigB va vb ma mb va.length = false := bigB_none hall.out
      obtain ⟨Va, Vc, rfl⟩ := own_shape hVo
      obtain ⟨Ma, Mc, rfl⟩ := own_shape hMo
      have z0 := hOr.cell 0; have z1 := hOr.cell 1; simp only [List.getElem?_cons_zero, List.getElem?_cons_succ] at z0 z1
      have x0 := hRr.cell 0; have x1 := hRr.cell 1; simp only [List.getElem?_cons_zero, List.getElem?_cons_succ] at x0 x1
      have f0 := hRr.frozen 0
      have f1 := hRr.frozen 1
      have hRE := (hRr.set_ 0 (.slice Va va.length Vc)).set_ 1 (.slice Ma va.length Mc)
      have hbE : Below w.heap.size w ((wr.setCell ⟨r, 0, none⟩ (.slice Va va.length Vc)).setCell ⟨r, 1, none⟩ (.slice Ma va.length Mc)) := (hwr.setCell (p := ⟨r, 0, none⟩) (by show w.heap.size ≤ r; omega) _).setCell (p := ⟨r, 1, none⟩) (by show w.heap.size ≤ r; omega) _
      have k1 : ∀ (W : World) (i : Nat) (u : Value), W.grownBy (W.setCell ⟨r, i, none⟩ u) (some r) := fun W i u => ⟨rfl, rfl, rfl, by simp [World.setCell], fun b _ hne => Below.heap_setCell W ⟨r, i, none⟩ u b (fun e => hne (by rw [e]))⟩
      have hVE := (hVo.kept (k1 wr 0 (.slice Va va.length Vc)) (.inr (fun e => by have := (hVo.lt r e).1; omega))).kept (k1 _ 1 (.slice Ma va.length Mc)) (.inr (fun e => by have := (hVo.lt r e).1; omega))
      have hME := (hMo.kept (k1 wr 0 (.slice Va va.length Vc)) (.inr (fun e => by have := (hMo.lt r e).1; omega))).kept (k1 _ 1 (.slice Ma va.length Mc)) (.inr (fun e => by have := (hMo.lt r e).1; omega))
      go_wp2
      generalize World.setCell (World.setCell wr ⟨r, 0, none⟩ _) ⟨r, 1, none⟩ _ = WE at hRE hbE hVE hME ⊢
      have z2 := hRE.cell 0
      have z3 := hRE.cell 1
      simp only [List.set_cons_zero, List.set_cons_succ, List.getElem?_cons_zero, List.getElem?_cons_succ] at z2 z3
      go_wp2
      refine bodyPost_ret (by simp [results, Tryd.results70, go_sem, z2, z3]; try rfl) rfl ?_
      exact ⟨.inr ⟨hnone, Va, Ma, Vc, Mc, rfl, RdT.of_own hVE, RdT.of_own hME⟩, hbE⟩
end Go.Proofs.YthkmeaibppkhmaaDoor
