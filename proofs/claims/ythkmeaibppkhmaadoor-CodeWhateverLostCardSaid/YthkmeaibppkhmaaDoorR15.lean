/- Contracts: the sums of two lines (the program's). -/
import Derived.Test.YthkmeaibppkhmaaDoorR14
namespace Go.Proofs.YthkmeaibppkhmaaDoor
open Go.RowKit
set_option maxRecDepth 100000


set_option maxHeartbeats 4000000 in
theorem combined_sum (A MA B MB : Option Addr) (qa ra qb rb : Nat) (va vb : List (Int × Int)) (ma mb : List Int) (w : World) (hs : Rd w A (gs va)) (hr : Rd w MA (ints ma)) (hv : Rd w B (gs vb)) (hu : Rd w MB (ints mb)) (hna : va.length ≤ 1000) (hnb : vb.length ≤ 1000) (hE : combE va vb ma mb = 0) :
    Calls Tryd.prog 67 #[.agg #[.slice A va.length qa, .slice MA ma.length ra], .agg #[.slice B vb.length qb, .slice MB mb.length rb]] w fun r w' =>
      ((bigB va vb ma mb va.length = true ∧ r = .returned (.tuple #[.agg #[.slice none 0 0, .slice none 0 0], .int .i64 8])) ∨
       (bigB va vb ma mb va.length = false ∧ ∃ V M : Option Addr, r = .returned (.tuple #[.agg #[.slice V va.length va.length, .slice M va.length va.length], .int .i64 0]) ∧ RdT w' 76 V (gs (sumV va vb va.length)) ∧ RdT w' 3 M (ints (sumM ma mb va.length)))) ∧ Below w.heap.size w w' := by
  obtain ⟨hA0, hB0, hab⟩ := combE_zero hE
  obtain ⟨hma, hn1, hn2, hia⟩ := lineE_zero hA0
  obtain ⟨hmb, _, _, hib⟩ := lineE_zero hB0
  have HL := hide (show vb.length = va.length ∧ ma.length = va.length ∧ mb.length = va.length from ⟨hab.symm, hma, by omega⟩)
  have HIA := hide hia
  have HIB := hide hib
  have e1 : (combE va vb ma mb != 0) = false := by simpa using hE
  have HE := hide hE
  clear hE hab hma hmb hA0 hB0 hia hib
  go_enter Tryd.func67, Tryd.ntmps67
  go_upto_region 1 with fail
  obtain ⟨W, hW⟩ : ∃ W, ((w.alloc (.cells #[.slice A va.length qa, .slice MA ma.length ra] 89)).alloc (.cells #[.slice B vb.length qb, .slice MB mb.length rb] 89)).alloc (.cells #[.slice none 0 0, .slice none 0 0] 89) = W := ⟨_, rfl⟩
  have hB : Below w.heap.size w W := by rw [← hW]; exact ((alloc_bel _ _).alloc (by simp) _).alloc (by simp; omega) _
  have hX : Blk W w.heap.size 89 [.slice A va.length qa, .slice MA ma.length ra] := by rw [← hW]; exact ((Blk.new w _ [_, _]).bel (alloc_bel _ _)).bel (alloc_bel _ _)
  have hY : Blk W (w.heap.size + 1) 89 [.slice B vb.length qb, .slice MB mb.length rb] := by rw [← hW]; exact (Blk.new2 w 89 89 [.slice A va.length qa, .slice MA ma.length ra] [.slice B vb.length qb, .slice MB mb.length rb]).bel (alloc_bel _ _)
  have hR : Blk W (w.heap.size + 1 + 1) 89 [.slice none 0 0, .slice none 0 0] := by rw [← hW]; exact Blk.new3 w 89 89 89 [.slice A va.length qa, .slice MA ma.length ra] [.slice B vb.length qb, .slice MB mb.length rb] [.slice none 0 0, .slice none 0 0]
  rw [hW]
  clear hW
  obtain ⟨y, hy⟩ : ∃ y, w.heap.size + 1 = y := ⟨_, rfl⟩
  obtain ⟨p, hp⟩ : ∃ p, y + 1 = p := ⟨_, rfl⟩
  rw [hy] at hY hR ⊢
  rw [hp] at hR ⊢
  have hyw : w.heap.size < y := by omega
  have hpw : y < p := by omega
  have hzp := hR.lt
  clear hy hp
  have c0 := hX.cell 0; have c1 := hX.cell 1; simp only [List.getElem?_cons_zero, List.getElem?_cons_succ] at c0 c1
  have y0 := hY.cell 0; have y1 := hY.cell 1; simp only [List.getElem?_cons_zero, List.getElem?_cons_succ] at y0 y1
  have HS := hide (show W.cell? ⟨w.heap.size, 0, none⟩ = some (.slice A va.length qa) ∧ W.cell? ⟨w.heap.size, 1, none⟩ = some (.slice MA ma.length ra) ∧ W.cell? ⟨y, 0, none⟩ = some (.slice B vb.length qb) ∧ W.cell? ⟨y, 1, none⟩ = some (.slice MB mb.length rb) ∧ Below W.heap.size W W from ⟨c0, c1, y0, y1, Below.refl _ _⟩)
  have ha := (hs.bel hB).drewN 1
  have hma := (hr.bel hB).drewN 1
  have hb := (hv.bel hB).drewN 1
  have hmb := (hu.bel hB).drewN 1
  clear c0 c1 y0 y1 hX hY
  go_region_held3 (fun w' => w'.cell? ⟨w.heap.size, 0, none⟩ = some (.slice A va.length qa) ∧ w'.cell? ⟨w.heap.size, 1, none⟩ = some (.slice MA ma.length ra) ∧ w'.cell? ⟨y, 0, none⟩ = some (.slice B vb.length qb) ∧ w'.cell? ⟨y, 1, none⟩ = some (.slice MB mb.length rb) ∧ Below W.heap.size W w')
    (first | with_reducible exact hd4_drew HS.out | with_reducible exact H1.out | with_reducible exact H2.out | with_reducible exact hd4_alloc H2.out H2.out.2.2.2.2.size _)
    (first
      | (go_at_call 120; have _g := H1; refine (lineError_c B MB qb rb vb mb _ (hb.bel hb1) (hmb.bel hb1) hnb).mono ?_; rintro e w2 ⟨rfl, hb2⟩; have H2 := hide (hd4_bel H1.out hb2 H1.out.2.2.2.2.size))
      | (go_at_call 120; refine (lineError_c A MA qa ra va ma _ ha hma hna).mono ?_; rintro e w1 ⟨rfl, hb1⟩; have H1 := hide (hd4_bel (hd4_drew HS.out) hb1 (by simp)))
      | (go_at_call 93; refine (errorIf_c _ _ _).mono ?_; rintro e_ w_ ⟨rfl, rfl⟩) | (go_at_call 94; refine (outside_c _ _ _ _).mono ?_; rintro e_ w_ ⟨rfl, rfl⟩) | (go_at_call 92; refine (firstError_3 _ _ _ _).mono ?_; rintro e_ w_ ⟨rfl, rfl⟩))
  have hF := hd4_alloc H2.out H2.out.2.2.2.2.size (.cells #[.int .i64 (lineE va ma), .int .i64 (lineE vb mb), .int .i64 (errIf ((va.length : Int) != vb.length) 13)] 25)
  obtain ⟨V, hV⟩ : ∃ V, w2.alloc (.cells #[.int .i64 (lineE va ma), .int .i64 (lineE vb mb), .int .i64 (errIf ((va.length : Int) != vb.length) 13)] 25) = V := ⟨_, rfl⟩
  rw [hV] at hF ⊢
  clear hV H1 H2 HS ha hma hb hmb hb1 hb2
  rw [show firstE [lineE va ma, lineE vb mb, errIf ((va.length : Int) != vb.length) 13] = combE va vb ma mb from rfl]
  generalize lineE va ma = ea
  generalize lineE vb mb = eb
  rw [HE.out] at e1 ⊢
  have hx0 := hF.1
  have hBF := hF.2.2.2.2
  have HK := hide hR
  have hVn : W.heap.size ≤ V.heap.size := hBF.size
  go_upto_region 5 with (first | (go_at_call 118; refine (newLine_c va.length _ hna).mono ?_; rintro e w3 ⟨a, b, rfl, hab, ha, hb, hBa, hBb, hb3⟩))
  generalize ((va.length : Int) != (vb.length : Int)) = bb
  obtain ⟨V4, hV4⟩ : ∃ V4, w3.alloc (.cells #[.slice (some ⟨a, 0, none⟩) va.length va.length, .slice (some ⟨b, 0, none⟩) va.length va.length] 89) = V4 := ⟨_, rfl⟩
  rw [hV4]
  have hB34 : Below w3.heap.size w3 V4 := by rw [← hV4]; exact alloc_bel _ _
  have hB24 : Below V.heap.size V V4 := tr hb3 hB34 hb3.size
  have hL4 : Blk V4 w3.heap.size 89 [.slice (some ⟨a, 0, none⟩) va.length va.length, .slice (some ⟨b, 0, none⟩) va.length va.length] := by rw [← hV4]; exact Blk.new w3 _ [_, _]
  have hLa : w3.heap.size ≠ a := by have := hBa.lt; omega
  have hLb : w3.heap.size ≠ b := by have := hBb.lt; omega
  have hBa4 := hBa.bel hB34
  have hBb4 := hBb.bel hB34
  obtain ⟨L, hL⟩ : ∃ L, w3.heap.size = L := ⟨_, rfl⟩
  rw [hL] at hL4 hLa hLb ⊢
  have hL2 : V.heap.size ≤ L := by have := hb3.size; omega
  obtain ⟨x0, x1, x2, x3, _⟩ := hF
  have hXs := hide (show V.cell? ⟨w.heap.size, 0, none⟩ = some (.slice A va.length qa) ∧ V.cell? ⟨w.heap.size, 1, none⟩ = some (.slice MA ma.length ra) ∧ V.cell? ⟨y, 0, none⟩ = some (.slice B vb.length qb) ∧ V.cell? ⟨y, 1, none⟩ = some (.slice MB mb.length rb) ∧ y < V.heap.size ∧ p < V.heap.size from ⟨x0, x1, x2, x3, by omega, by omega⟩)
  clear hV4 hBa hBb hB34 x0 x1 x2 x3 hx0 hR hL hb3
  have hWV : Below w.heap.size w V := hB.trans (hBF.mono hB.size)
  have j0 := hL4.cell 0; have j1 := hL4.cell 1; simp only [List.getElem?_cons_zero, List.getElem?_cons_succ] at j0 j1
  go_wp2
  go_loopw [34] (fun i wr => ∃ k : Nat, k ≤ va.length ∧ i = .int .i64 k ∧ Below V.heap.size V wr ∧ Blk wr L 89 [.slice (some ⟨a, 0, none⟩) va.length va.length, .slice (some ⟨b, 0, none⟩) va.length va.length] ∧
    Blk wr a 76 (gs (sumV va vb k ++ List.replicate (va.length - k) (0, 0))) ∧ Blk wr b 3 (ints (sumM ma mb k ++ List.replicate (va.length - k) 0)) ∧ Hid (∀ j, j < k → bigK va vb ma mb j = false)) (fun i _ => va.length - (intOf i).toNat)
  case atStart => exact ⟨0, by omega, rfl, hB24, hL4, by simpa [sumV] using hBa4, by simpa [sumM] using hBb4, fun j hj => absurd hj (Nat.not_lt_zero _)⟩
  case round =>
    clear j0 j1 hBa4 hBb4 hL4 hB24
    obtain ⟨k, hk, rfl, hbr, hLr, hAr, hMr, hall⟩ := hrel
    have hwr := tr hWV hbr hWV.size
    by_cases hlt : k < va.length
    · obtain ⟨l1, l2, l3⟩ := HL.out
      have hkb : k < vb.length := by omega
      have hkm : k < ma.length := by omega
      have hkn : k < mb.length := by omega
      obtain ⟨bA, oA, rfl, hbA, a0, a1⟩ := hs.g_at hlt
      obtain ⟨bB, oB, rfl, hbB, b0, b1⟩ := hv.g_at hkb
      obtain ⟨bM, oM, rfl, hbM, m0⟩ := hr.int_at hkm
      obtain ⟨bN, oN, rfl, hbN, n0⟩ := hu.int_at hkn
      have hS : Hid (sumK va vb k = (va[k].1 + vb[k].1, va[k].2 + vb[k].2)) := by
        show _ = _
        simp only [sumK, gadd, List.getD, List.getElem?_eq_getElem hlt, List.getElem?_eq_getElem hkb, Option.getD_some]
      have hD : Hid (missK ma mb k = ma[k] + mb[k]) := by
        show _ = _
        simp only [missK, List.getD, List.getElem?_eq_getElem hkm, List.getElem?_eq_getElem hkn, Option.getD_some]
      have hbd := lineItem_zero (HIA.out k hlt)
      have hbe := lineItem_zero (HIB.out k hkb)
      rw [show ma.getD k 0 = ma[k] by simp [List.getD, hkm]] at hbd
      rw [show mb.getD k 0 = mb[k] by simp [List.getD, hkn]] at hbe
      have HBG : Hid (bigK va vb ma mb k = (beyB (sumK va vb k) 1000000000 || decide (64 < missK ma mb k))) := rfl
      have hvs : Hid (sumV va vb (k + 1) ++ List.replicate (va.length - (k + 1)) (0, 0) = (sumV va vb k ++ List.replicate (va.length - k) (0, 0)).set k (sumK va vb k)) := (set_next _ _ _ _ hlt).symm
      have hms : Hid (sumM ma mb (k + 1) ++ List.replicate (va.length - (k + 1)) 0 = (sumM ma mb k ++ List.replicate (va.length - k) 0).set k (missK ma mb k)) := (set_next _ _ _ _ hlt).symm
      have hlV : (sumV va vb k ++ List.replicate (va.length - k) (0, 0)).length = va.length := by simp [sumV]; omega
      have hlM : (sumM ma mb k ++ List.replicate (va.length - k) 0).length = va.length := by simp [sumM]; omega
      generalize sumV va vb k ++ List.replicate (va.length - k) (0, 0) = LV at hAr hvs hlV
      generalize sumM ma mb k ++ List.replicate (va.length - k) 0 = LM at hMr hms hlM
      rw [hS.out] at HBG hvs
      rw [hD.out] at HBG hms
      clear hS hD
      generalize va[k] = ga at a0 a1 HBG hvs hbd
      generalize vb[k] = gb at b0 b1 HBG hvs hbe
      generalize ma[k] = na at m0 HBG hms hbd
      generalize mb[k] = nb at n0 HBG hms hbe
      obtain ⟨xa, ya⟩ := ga
      obtain ⟨xb, yb⟩ := gb
      obtain ⟨⟨q1, q2, q3, q4⟩, q5, q6⟩ := hbd
      obtain ⟨⟨r1, r2, r3, r4⟩, r5, r6⟩ := hbe
      dsimp only at a0 a1 b0 b1 q1 q2 q3 q4 r1 r2 r3 r4 HBG hvs
      have s1 : IntKind.i64.wrap (xa + xb) = xa + xb := by simp (disch := omega) only [IntWalk.i64_in]
      have s2 : IntKind.i64.wrap (ya + yb) = ya + yb := by simp (disch := omega) only [IntWalk.i64_in]
      have s3 : IntKind.i64.wrap (na + nb) = na + nb := by simp (disch := omega) only [IntWalk.i64_in]
      have hkV : k < LV.length := by omega
      have hkM : k < LM.length := by omega
      have ix0 : (0 : Int) ≤ (k : Int) := by omega
      have ix1 : (k : Int) < (va.length : Int) := by omega
      have ix2 : (k : Int) < (vb.length : Int) := by omega
      have ix3 : (k : Int) < (ma.length : Int) := by omega
      have ix4 : (k : Int) < (mb.length : Int) := by omega
      have hVw := hWV.size
      obtain ⟨x0, x1, x2, x3, hyV, hpV⟩ := hXs.out
      have n1 : w.heap.size ≠ a := by omega
      have n2 : y ≠ a := by omega
      have n3 : bA ≠ a := by omega
      have n4 : bB ≠ a := by omega
      have o1 : w.heap.size ≠ b := by omega
      have o2 : y ≠ b := by omega
      have o3 : bM ≠ b := by omega
      have o4 : bN ≠ b := by omega
      have hwV : w.heap.size < V.heap.size := by omega
      have X0 := hide x0
      have X1 := hide x1
      have X2 := hide x2
      have X3 := hide x3
      have A0 := hide a0
      have A1 := hide a1
      have B0 := hide b0
      have B1 := hide b1
      have M0 := hide m0
      have N0 := hide n0
      clear x0 x1 x2 x3 a0 a1 b0 b1 m0 n0 q1 q2 q3 q4 q5 q6 r1 r2 r3 r4 r5 r6 l1 l2 l3
      -- the real parts
      have HS8 := hide (show wr.cell? ⟨L, 0, none⟩ = some (.slice (some ⟨a, 0, none⟩) va.length va.length) ∧ wr.cell? ⟨w.heap.size, 0, none⟩ = some (.slice (some ⟨bA, oA, none⟩) va.length qa) ∧ wr.cell? ⟨y, 0, none⟩ = some (.slice (some ⟨bB, oB, none⟩) vb.length qb) ∧ wr.cell? ⟨bA, oA + k * 2, none⟩ = some (.int .i64 xa) ∧ wr.cell? ⟨bB, oB + k * 2, none⟩ = some (.int .i64 xb) ∧ Below V.heap.size V wr
        from ⟨hLr.cell 0, (hbr.cell (p := ⟨w.heap.size, 0, none⟩) hwV).trans X0.out, (hbr.cell (p := ⟨y, 0, none⟩) hyV).trans X2.out, (hwr.cell (p := ⟨bA, _, none⟩) hbA).trans A0.out, (hwr.cell (p := ⟨bB, _, none⟩) hbB).trans B0.out, hbr⟩)
      have HAD : Blk wr.drew a 76 (gs LV) := hAr
      have z1 := HAD.cell (k * 2)
      rw [(gs_at hkV).1] at z1
      have z3 := HAD.frozen (k * 2)
      go_upto_region 8 with fail
      go_region_held3 (fun w' => w'.cell? ⟨L, 0, none⟩ = some (.slice (some ⟨a, 0, none⟩) va.length va.length) ∧ w'.cell? ⟨w.heap.size, 0, none⟩ = some (.slice (some ⟨bA, oA, none⟩) va.length qa) ∧ w'.cell? ⟨y, 0, none⟩ = some (.slice (some ⟨bB, oB, none⟩) vb.length qb) ∧ w'.cell? ⟨bA, oA + k * 2, none⟩ = some (.int .i64 xa) ∧ w'.cell? ⟨bB, oB + k * 2, none⟩ = some (.int .i64 xb) ∧ Below V.heap.size V w')
        (first | with_reducible exact hd5_drew HS8.out | with_reducible exact hd5_drew (hd5_set HS8.out hLa n1 n2 n3 n4 ha)) (fail)
      have hA8 := HAD.set_ (k * 2) (.int .i64 (xa + xb))
      have hL8 := hLr.far (p := ⟨a, k * 2, none⟩) hLa (.int .i64 (xa + xb))
      have hM8 := hMr.far (p := ⟨a, k * 2, none⟩) (Ne.symm hab) (.int .i64 (xa + xb))
      have hb8 : Below V.heap.size V (wr.setCell ⟨a, k * 2, none⟩ (.int .i64 (xa + xb))) := hbr.setCell (p := ⟨a, k * 2, none⟩) ha _
      clear z1 z3 HAD HS8 hAr hLr hMr hbr hwr
      go_upto_region 9 with fail
      obtain ⟨w8, hw8⟩ : ∃ w8, (wr.setCell ⟨a, k * 2, none⟩ (.int .i64 (xa + xb))).drew = w8 := ⟨_, rfl⟩
      have hA : Blk w8 a 76 ((gs LV).set (k * 2) (.int .i64 (xa + xb))) := by rw [← hw8]; exact hA8
      have hLi : Blk w8 L 89 [.slice (some ⟨a, 0, none⟩) va.length va.length, .slice (some ⟨b, 0, none⟩) va.length va.length] := by rw [← hw8]; exact hL8
      have hM : Blk w8 b 3 (ints LM) := by rw [← hw8]; exact hM8
      have hbr : Below V.heap.size V w8 := by rw [← hw8]; exact hb8.drew
      rw [hw8]
      clear hw8 hA8 hL8 hM8 hb8
      have hwr := tr hWV hbr hWV.size
      -- the imaginary parts
      have HS9 := hide (show w8.cell? ⟨L, 0, none⟩ = some (.slice (some ⟨a, 0, none⟩) va.length va.length) ∧ w8.cell? ⟨w.heap.size, 0, none⟩ = some (.slice (some ⟨bA, oA, none⟩) va.length qa) ∧ w8.cell? ⟨y, 0, none⟩ = some (.slice (some ⟨bB, oB, none⟩) vb.length qb) ∧ w8.cell? ⟨bA, oA + k * 2 + 1, none⟩ = some (.int .i64 ya) ∧ w8.cell? ⟨bB, oB + k * 2 + 1, none⟩ = some (.int .i64 yb) ∧ Below V.heap.size V w8
        from ⟨hLi.cell 0, (hbr.cell (p := ⟨w.heap.size, 0, none⟩) hwV).trans X0.out, (hbr.cell (p := ⟨y, 0, none⟩) hyV).trans X2.out, (hwr.cell (p := ⟨bA, _, none⟩) hbA).trans A1.out, (hwr.cell (p := ⟨bB, _, none⟩) hbB).trans B1.out, hbr⟩)
      have HAD : Blk w8.drew a 76 ((gs LV).set (k * 2) (.int .i64 (xa + xb))) := hA
      have z1 := HAD.cell (k * 2 + 1)
      rw [List.getElem?_set_ne (by omega), (gs_at hkV).2] at z1
      have z3 := HAD.frozen (k * 2 + 1)
      go_region_held3 (fun w' => w'.cell? ⟨L, 0, none⟩ = some (.slice (some ⟨a, 0, none⟩) va.length va.length) ∧ w'.cell? ⟨w.heap.size, 0, none⟩ = some (.slice (some ⟨bA, oA, none⟩) va.length qa) ∧ w'.cell? ⟨y, 0, none⟩ = some (.slice (some ⟨bB, oB, none⟩) vb.length qb) ∧ w'.cell? ⟨bA, oA + k * 2 + 1, none⟩ = some (.int .i64 ya) ∧ w'.cell? ⟨bB, oB + k * 2 + 1, none⟩ = some (.int .i64 yb) ∧ Below V.heap.size V w')
        (first | with_reducible exact hd5_drew HS9.out | with_reducible exact hd5_drew (hd5_set HS9.out hLa n1 n2 n3 n4 ha)) (fail)
      have hA9 : Blk (w8.setCell ⟨a, k * 2 + 1, none⟩ (.int .i64 (ya + yb))) a 76 (gs (LV.set k (xa + xb, ya + yb))) := by
        have := hA.set_ (k * 2 + 1) (.int .i64 (ya + yb))
        rwa [gs_set hkV (xa + xb, ya + yb)] at this
      have hL9 := hLi.far (p := ⟨a, k * 2 + 1, none⟩) hLa (.int .i64 (ya + yb))
      have hM9 := hM.far (p := ⟨a, k * 2 + 1, none⟩) (Ne.symm hab) (.int .i64 (ya + yb))
      have hb9 : Below V.heap.size V (w8.setCell ⟨a, k * 2 + 1, none⟩ (.int .i64 (ya + yb))) := hbr.setCell (p := ⟨a, k * 2 + 1, none⟩) ha _
      clear z1 z3 HAD HS9 hA hLi hM hbr hwr
      go_upto_region 10 with fail
      obtain ⟨w9, hw9⟩ : ∃ w9, (w8.setCell ⟨a, k * 2 + 1, none⟩ (.int .i64 (ya + yb))).drew = w9 := ⟨_, rfl⟩
      have hA : Blk w9 a 76 (gs (LV.set k (xa + xb, ya + yb))) := by rw [← hw9]; exact hA9
      have hLi : Blk w9 L 89 [.slice (some ⟨a, 0, none⟩) va.length va.length, .slice (some ⟨b, 0, none⟩) va.length va.length] := by rw [← hw9]; exact hL9
      have hM : Blk w9 b 3 (ints LM) := by rw [← hw9]; exact hM9
      have hbr : Below V.heap.size V w9 := by rw [← hw9]; exact hb9.drew
      rw [hw9]
      clear hw9 hA9 hL9 hM9 hb9
      have hwr := tr hWV hbr hWV.size
      -- what is missing
      have HS10 := hide (show w9.cell? ⟨L, 1, none⟩ = some (.slice (some ⟨b, 0, none⟩) va.length va.length) ∧ w9.cell? ⟨w.heap.size, 1, none⟩ = some (.slice (some ⟨bM, oM, none⟩) ma.length ra) ∧ w9.cell? ⟨y, 1, none⟩ = some (.slice (some ⟨bN, oN, none⟩) mb.length rb) ∧ w9.cell? ⟨bM, oM + k, none⟩ = some (.int .i64 na) ∧ w9.cell? ⟨bN, oN + k, none⟩ = some (.int .i64 nb) ∧ Below V.heap.size V w9
        from ⟨hLi.cell 1, (hbr.cell (p := ⟨w.heap.size, 1, none⟩) hwV).trans X1.out, (hbr.cell (p := ⟨y, 1, none⟩) hyV).trans X3.out, (hwr.cell (p := ⟨bM, _, none⟩) hbM).trans M0.out, (hwr.cell (p := ⟨bN, _, none⟩) hbN).trans N0.out, hbr⟩)
      have HMD : Blk w9.drew b 3 (ints LM) := hM
      have z1 := HMD.cell k
      rw [ints_at hkM] at z1
      have z3 := HMD.frozen k
      go_region_held3 (fun w' => w'.cell? ⟨L, 1, none⟩ = some (.slice (some ⟨b, 0, none⟩) va.length va.length) ∧ w'.cell? ⟨w.heap.size, 1, none⟩ = some (.slice (some ⟨bM, oM, none⟩) ma.length ra) ∧ w'.cell? ⟨y, 1, none⟩ = some (.slice (some ⟨bN, oN, none⟩) mb.length rb) ∧ w'.cell? ⟨bM, oM + k, none⟩ = some (.int .i64 na) ∧ w'.cell? ⟨bN, oN + k, none⟩ = some (.int .i64 nb) ∧ Below V.heap.size V w')
        (first | with_reducible exact hd5_drew HS10.out | with_reducible exact hd5_set (hd5_drew HS10.out) hLb o1 o2 o3 o4 hb | with_reducible exact hd5_drew (hd5_set HS10.out hLb o1 o2 o3 o4 hb)) (fail)
      have hM10 : Blk (w9.setCell ⟨b, k, none⟩ (.int .i64 (na + nb))) b 3 (ints (LM.set k (na + nb))) := by
        have := hM.set_ k (.int .i64 (na + nb))
        rwa [show (ints LM).set k (.int .i64 (na + nb)) = ints (LM.set k (na + nb)) from by simp [ints, List.map_set]] at this
      have hL10 := hLi.far (p := ⟨b, k, none⟩) hLb (.int .i64 (na + nb))
      have hA10 := hA.far (p := ⟨b, k, none⟩) hab (.int .i64 (na + nb))
      have hb10 : Below V.heap.size V (w9.setCell ⟨b, k, none⟩ (.int .i64 (na + nb))) := hbr.setCell (p := ⟨b, k, none⟩) hb _
      clear z1 z3 HMD HS10 hA hLi hM hbr hwr
      go_upto_region 11 with fail
      obtain ⟨wx, hwx⟩ : ∃ wx, (w9.setCell ⟨b, k, none⟩ (.int .i64 (na + nb))).drew = wx := ⟨_, rfl⟩
      have hA : Blk wx a 76 (gs (LV.set k (xa + xb, ya + yb))) := by rw [← hwx]; exact hA10
      have hLi : Blk wx L 89 [.slice (some ⟨a, 0, none⟩) va.length va.length, .slice (some ⟨b, 0, none⟩) va.length va.length] := by rw [← hwx]; exact hL10
      have hM : Blk wx b 3 (ints (LM.set k (na + nb))) := by rw [← hwx]; exact hM10
      have hbr : Below V.heap.size V wx := by rw [← hwx]; exact hb10.drew
      rw [hwx]
      clear hwx hA10 hL10 hM10 hb10 s1 s2 s3
      have hRx : Blk wx p 89 [.slice none 0 0, .slice none 0 0] := (HK.out.bel hBF).below hbr hpV
      generalize xa + xb = sx at hA HBG hvs
      generalize ya + yb = sy at hA HBG hvs
      generalize na + nb = sm at hM HBG hms
      have hset : (LV.set k (sx, sy))[k]? = some (sx, sy) := List.getElem?_set_self hkV
      obtain ⟨z1, z2⟩ := hA.g_at hset
      have z4 := hM.cell k
      rw [ints_at (show k < (LM.set k sm).length by simp; omega)] at z4
      simp only [List.getElem_set_self] at z4
      dsimp only at z1 z2
      have j0 := hLi.cell 0; have j1 := hLi.cell 1; simp only [List.getElem?_cons_zero, List.getElem?_cons_succ] at j0 j1
      have HBy := hide (fun W => beyond_c sx sy 1000000000 W (by omega) (by omega))
      generalize beyB (sx, sy) 1000000000 = be at HBy HBG
      cases be
      · by_cases hm : 64 < sm
        · have dm : decide ((64 : Int) < sm) = true := by simpa using hm
          have hbig : bigK va vb ma mb k = true := by rw [HBG.out, dm]; rfl
          clear HBG
          go_wp2_with (first | (go_at_call 112; refine (HBy.out _).mono ?_; rintro e wz ⟨rfl, hbz⟩; have hVz := tr hbr hbz hbr.size; have j2 := (hLi.bel hbz).cell 1; simp only [List.getElem?_cons_zero, List.getElem?_cons_succ] at j2; have z5 := (hbz.cell (p := ⟨b, k, none⟩) hM.lt).trans z4; have hRz := hRx.bel hbz; have d0 := hRz.cell 0; have d1 := hRz.cell 1; simp only [List.getElem?_cons_zero, List.getElem?_cons_succ] at d0 d1; have k0 := hRz.frozen 0; have k1 := hRz.frozen 1))
          obtain ⟨WE, hWE⟩ : ∃ WE, (wz.setCell ⟨p, 0, none⟩ (.slice none 0 0)).setCell ⟨p, 1, none⟩ (.slice none 0 0) = WE := ⟨_, rfl⟩
          rw [hWE]
          have hE' : Blk WE p 89 [.slice none 0 0, .slice none 0 0] := by rw [← hWE]; exact (hRz.set_ 0 _).set_ 1 _
          have hBE : Below w.heap.size w WE := by
            have hX : Below w.heap.size w wz := tr hWV hVz hWV.size
            rw [← hWE]
            exact (hX.setCell (by show w.heap.size ≤ p; omega) _).setCell (by show w.heap.size ≤ p; omega) _
          have g0 := hE'.cell 0
          have g1 := hE'.cell 1
          simp only [List.getElem?_cons_zero, List.getElem?_cons_succ] at g0 g1
          clear hWE
          try simp only [Exit.inBlock, Exit.then]
          refine bodyPost_ret (by simp [results, Tryd.results67, go_sem, g0, g1]; try rfl) rfl ?_
          exact ⟨.inl ⟨bigB_at hlt hbig, rfl⟩, hBE⟩
        · have dm : decide ((64 : Int) < sm) = false := by simpa using hm
          have hsmall : bigK va vb ma mb k = false := by rw [HBG.out, dm]; rfl
          clear HBG
          go_wp2_with (first | (go_at_call 112; refine (HBy.out _).mono ?_; rintro e wz ⟨rfl, hbz⟩; have hVz := tr hbr hbz hbr.size; have j2 := (hLi.bel hbz).cell 1; simp only [List.getElem?_cons_zero, List.getElem?_cons_succ] at j2; have z5 := (hbz.cell (p := ⟨b, k, none⟩) hM.lt).trans z4))
          go_roundw
          case rel =>
            refine ⟨k + 1, by omega, by go_num, hVz, hLi.bel hbz, by rw [hvs.out]; exact hA.bel hbz, by rw [hms.out]; exact hM.bel hbz, fun j hj => ?_⟩
            by_cases e : j = k
            · rw [e]; exact hsmall
            · exact hall.out j (by omega)
          case measure => simp [intOf]; omega
      · have hbig : bigK va vb ma mb k = true := by rw [HBG.out]; rfl
        clear HBG
        go_wp2_with (first | (go_at_call 112; refine (HBy.out _).mono ?_; rintro e wz ⟨rfl, hbz⟩; have hVz := tr hbr hbz hbr.size; have hRz := hRx.bel hbz; have d0 := hRz.cell 0; have d1 := hRz.cell 1; simp only [List.getElem?_cons_zero, List.getElem?_cons_succ] at d0 d1; have k0 := hRz.frozen 0; have k1 := hRz.frozen 1))
        obtain ⟨WE, hWE⟩ : ∃ WE, (wz.setCell ⟨p, 0, none⟩ (.slice none 0 0)).setCell ⟨p, 1, none⟩ (.slice none 0 0) = WE := ⟨_, rfl⟩
        rw [hWE]
        have hE' : Blk WE p 89 [.slice none 0 0, .slice none 0 0] := by rw [← hWE]; exact (hRz.set_ 0 _).set_ 1 _
        have hBE : Below w.heap.size w WE := by
          have hX : Below w.heap.size w wz := tr hWV hVz hWV.size
          rw [← hWE]
          exact (hX.setCell (by show w.heap.size ≤ p; omega) _).setCell (by show w.heap.size ≤ p; omega) _
        have g0 := hE'.cell 0
        have g1 := hE'.cell 1
        simp only [List.getElem?_cons_zero, List.getElem?_cons_succ] at g0 g1
        clear hWE
        try simp only [Exit.inBlock, Exit.then]
        refine bodyPost_ret (by simp [results, Tryd.results67, go_sem, g0, g1]; try rfl) rfl ?_
        exact ⟨.inl ⟨bigB_at hlt hbig, rfl⟩, hBE⟩
    · obtain rfl : k = va.length := by omega
      rw [Nat.sub_self, List.replicate_zero, List.append_nil] at hAr hMr
      have hpV : p < V.heap.size := hXs.out.2.2.2.2.2
      have hRr : Blk wr p 89 [.slice none 0 0, .slice none 0 0] := (HK.out.bel hBF).below hbr hpV
      have hpa : p ≠ a := by omega
      have hpb : p ≠ b := by omega
      have hnone : bigB va vb ma mb va.length = false := bigB_none hall.out
      have d0 := hRr.cell 0; have d1 := hRr.cell 1; simp only [List.getElem?_cons_zero, List.getElem?_cons_succ] at d0 d1
      have j0 := hLr.cell 0; have j1 := hLr.cell 1; simp only [List.getElem?_cons_zero, List.getElem?_cons_succ] at j0 j1
      have k0 := hRr.frozen 0
      have k1 := hRr.frozen 1
      go_wp2
      obtain ⟨WE, hWE⟩ : ∃ WE, (wr.setCell ⟨p, 0, none⟩ (.slice (some ⟨a, 0, none⟩) va.length va.length)).setCell ⟨p, 1, none⟩ (.slice (some ⟨b, 0, none⟩) va.length va.length) = WE := ⟨_, rfl⟩
      rw [hWE]
      have hE' : Blk WE p 89 [.slice (some ⟨a, 0, none⟩) va.length va.length, .slice (some ⟨b, 0, none⟩) va.length va.length] := by rw [← hWE]; exact (hRr.set_ 0 _).set_ 1 _
      have hAE : Blk WE a 76 (gs (sumV va vb va.length)) := by rw [← hWE]; exact (hAr.far (p := ⟨p, 0, none⟩) (Ne.symm hpa) _).far (p := ⟨p, 1, none⟩) (Ne.symm hpa) _
      have hME : Blk WE b 3 (ints (sumM ma mb va.length)) := by rw [← hWE]; exact (hMr.far (p := ⟨p, 0, none⟩) (Ne.symm hpb) _).far (p := ⟨p, 1, none⟩) (Ne.symm hpb) _
      have hBE : Below w.heap.size w WE := by
        rw [← hWE]
        exact (hwr.setCell (by show w.heap.size ≤ p; omega) _).setCell (by show w.heap.size ≤ p; omega) _
      have g0 := hE'.cell 0
      have g1 := hE'.cell 1
      simp only [List.getElem?_cons_zero, List.getElem?_cons_succ] at g0 g1
      clear hWE
      try simp only [Exit.inBlock, Exit.then]
      refine bodyPost_ret (by simp [results, Tryd.results67, go_sem, g0, g1]; try rfl) rfl ?_
      exact ⟨.inr ⟨hnone, _, _, rfl, hAE.rdT (List.prefix_refl _), hME.rdT (List.prefix_refl _)⟩, hBE⟩
end Go.Proofs.YthkmeaibppkhmaaDoor
