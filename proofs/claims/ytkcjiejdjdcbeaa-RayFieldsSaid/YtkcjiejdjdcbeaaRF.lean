/- A group of texts (tools/groups.txt): Ry61 Ry62 Ry63. No condition but those that each says. -/
import Derived.Test.YtkcjiejdjdcbeaaRy60
import Derived.Test.YtkcjiejdjdcbeaaRy32
import Derived.Test.YtkcjiejdjdcbeaaRZ
set_option linter.unusedSimpArgs false
set_option linter.unusedVariables false
/- Contracts: the reference's errors of a field, its index square; spans compared. -/
set_option linter.unusedSimpArgs false
set_option linter.unusedVariables false
namespace Go.Proofs.Ytkcjiejdjdcbeaa
open Go.RowKit
set_option maxRecDepth 100000

theorem fieldE_cases (gy lo hi : Int) : fieldE gy lo hi = if outB gy 0 300 = true then 2 else if outB lo (-100) 100 = true then 2 else if outB hi (-100) 100 = true then 2 else if hi < lo then 9 else 0 := by
  unfold fieldE
  cases outB gy 0 300 <;> cases outB lo (-100) 100 <;> cases outB hi (-100) 100 <;> by_cases h : hi < lo <;> simp [firstE, errIf, h]
set_option maxHeartbeats 2000000 in
theorem refFieldErr_c (gy lo hi : Int) (w : World) : Calls Try.prog 71 #[.agg #[.int .i64 gy, .int .i64 lo, .int .i64 hi]] w fun r w' => r = .returned (.int .i64 (fieldE gy lo hi)) ∧ Below w.heap.size w w' := by
  have HE := hide (fieldE_cases gy lo hi)
  have HG := hide (fun n a b W => within_c n a b W)
  generalize fieldE gy lo hi = e at HE ⊢
  obtain ⟨bg, hbg⟩ : ∃ b, outB gy 0 300 = b := ⟨_, rfl⟩
  obtain ⟨bl, hbl⟩ : ∃ b, outB lo (-100) 100 = b := ⟨_, rfl⟩
  obtain ⟨bh, hbh⟩ : ∃ b, outB hi (-100) 100 = b := ⟨_, rfl⟩
  rw [hbg, hbl, hbh] at HE
  replace hbg := hide hbg
  replace hbl := hide hbl
  replace hbh := hide hbh
  cases bg
  · cases bl
    · cases bh
      · by_cases hlt : hi < lo
        · have HR : Hid (e = 9) := by show _ = _; rw [HE.out]; simp [hlt]
          clear HE
          obtain ⟨q, hq⟩ : ∃ q, w.heap.size = q := ⟨_, rfl⟩
          obtain ⟨W, hW⟩ : ∃ W, w.alloc (.cells #[.int .i64 gy, .int .i64 lo, .int .i64 hi] 121) = W := ⟨_, rfl⟩
          have hB : Below q w W := by rw [← hW, ← hq]; exact alloc_bel _ _
          have hX : Blk W q 121 [.int .i64 gy, .int .i64 lo, .int .i64 hi] := by rw [← hW, ← hq]; exact Blk.new w _ [_, _, _]
          have HW := hide hW
          have hz := hX.lt
          clear hW
          have t0 := hX.cell 0; have t1 := hX.cell 1; have t2 := hX.cell 2; simp only [List.getElem?_cons_zero, List.getElem?_cons_succ] at t0 t1 t2
          go_enter Try.func71, Try.ntmps71
          go_upto_region 1 with fail
          try simp only [hq]
          rw [HW.out]
          go_wp2_with (go_at_call 48; refine (HG.out _ _ _ _).mono ?_; rintro e_ w_ ⟨rfl, rfl⟩; first | rw [hbg.out] | rw [hbl.out] | rw [hbh.out])
          go_ret
          exact ⟨ret_int HR.out.symm, by first | exact hB | (rw [hq]; exact hB)⟩
        · have HR : Hid (e = 0) := by show _ = _; rw [HE.out]; simp [hlt]
          clear HE
          obtain ⟨q, hq⟩ : ∃ q, w.heap.size = q := ⟨_, rfl⟩
          obtain ⟨W, hW⟩ : ∃ W, w.alloc (.cells #[.int .i64 gy, .int .i64 lo, .int .i64 hi] 121) = W := ⟨_, rfl⟩
          have hB : Below q w W := by rw [← hW, ← hq]; exact alloc_bel _ _
          have hX : Blk W q 121 [.int .i64 gy, .int .i64 lo, .int .i64 hi] := by rw [← hW, ← hq]; exact Blk.new w _ [_, _, _]
          have HW := hide hW
          have hz := hX.lt
          clear hW
          have t0 := hX.cell 0; have t1 := hX.cell 1; have t2 := hX.cell 2; simp only [List.getElem?_cons_zero, List.getElem?_cons_succ] at t0 t1 t2
          go_enter Try.func71, Try.ntmps71
          go_upto_region 1 with fail
          try simp only [hq]
          rw [HW.out]
          go_wp2_with (go_at_call 48; refine (HG.out _ _ _ _).mono ?_; rintro e_ w_ ⟨rfl, rfl⟩; first | rw [hbg.out] | rw [hbl.out] | rw [hbh.out])
          go_ret
          exact ⟨ret_int HR.out.symm, by first | exact hB | (rw [hq]; exact hB)⟩
      · have HR : Hid (e = 2) := by show _ = _; rw [HE.out]; simp
        clear HE
        obtain ⟨q, hq⟩ : ∃ q, w.heap.size = q := ⟨_, rfl⟩
        obtain ⟨W, hW⟩ : ∃ W, w.alloc (.cells #[.int .i64 gy, .int .i64 lo, .int .i64 hi] 121) = W := ⟨_, rfl⟩
        have hB : Below q w W := by rw [← hW, ← hq]; exact alloc_bel _ _
        have hX : Blk W q 121 [.int .i64 gy, .int .i64 lo, .int .i64 hi] := by rw [← hW, ← hq]; exact Blk.new w _ [_, _, _]
        have HW := hide hW
        have hz := hX.lt
        clear hW
        have t0 := hX.cell 0; have t1 := hX.cell 1; have t2 := hX.cell 2; simp only [List.getElem?_cons_zero, List.getElem?_cons_succ] at t0 t1 t2
        go_enter Try.func71, Try.ntmps71
        go_upto_region 1 with fail
        try simp only [hq]
        rw [HW.out]
        go_wp2_with (go_at_call 48; refine (HG.out _ _ _ _).mono ?_; rintro e_ w_ ⟨rfl, rfl⟩; first | rw [hbg.out] | rw [hbl.out] | rw [hbh.out])
        go_ret
        exact ⟨ret_int HR.out.symm, by first | exact hB | (rw [hq]; exact hB)⟩
    · have HR : Hid (e = 2) := by show _ = _; rw [HE.out]; simp
      clear HE
      obtain ⟨q, hq⟩ : ∃ q, w.heap.size = q := ⟨_, rfl⟩
      obtain ⟨W, hW⟩ : ∃ W, w.alloc (.cells #[.int .i64 gy, .int .i64 lo, .int .i64 hi] 121) = W := ⟨_, rfl⟩
      have hB : Below q w W := by rw [← hW, ← hq]; exact alloc_bel _ _
      have hX : Blk W q 121 [.int .i64 gy, .int .i64 lo, .int .i64 hi] := by rw [← hW, ← hq]; exact Blk.new w _ [_, _, _]
      have HW := hide hW
      have hz := hX.lt
      clear hW
      have t0 := hX.cell 0; have t1 := hX.cell 1; have t2 := hX.cell 2; simp only [List.getElem?_cons_zero, List.getElem?_cons_succ] at t0 t1 t2
      go_enter Try.func71, Try.ntmps71
      go_upto_region 1 with fail
      try simp only [hq]
      rw [HW.out]
      go_wp2_with (go_at_call 48; refine (HG.out _ _ _ _).mono ?_; rintro e_ w_ ⟨rfl, rfl⟩; first | rw [hbg.out] | rw [hbl.out] | rw [hbh.out])
      go_ret
      exact ⟨ret_int HR.out.symm, by first | exact hB | (rw [hq]; exact hB)⟩
  · have HR : Hid (e = 2) := by show _ = _; rw [HE.out]; simp
    clear HE
    obtain ⟨q, hq⟩ : ∃ q, w.heap.size = q := ⟨_, rfl⟩
    obtain ⟨W, hW⟩ : ∃ W, w.alloc (.cells #[.int .i64 gy, .int .i64 lo, .int .i64 hi] 121) = W := ⟨_, rfl⟩
    have hB : Below q w W := by rw [← hW, ← hq]; exact alloc_bel _ _
    have hX : Blk W q 121 [.int .i64 gy, .int .i64 lo, .int .i64 hi] := by rw [← hW, ← hq]; exact Blk.new w _ [_, _, _]
    have HW := hide hW
    have hz := hX.lt
    clear hW
    have t0 := hX.cell 0; have t1 := hX.cell 1; have t2 := hX.cell 2; simp only [List.getElem?_cons_zero, List.getElem?_cons_succ] at t0 t1 t2
    go_enter Try.func71, Try.ntmps71
    go_upto_region 1 with fail
    try simp only [hq]
    rw [HW.out]
    go_wp2_with (go_at_call 48; refine (HG.out _ _ _ _).mono ?_; rintro e_ w_ ⟨rfl, rfl⟩; first | rw [hbg.out] | rw [hbl.out] | rw [hbh.out])
    go_ret
    exact ⟨ret_int HR.out.symm, by first | exact hB | (rw [hq]; exact hB)⟩
theorem refSlowErr_c (f gy lo hi : Int) (w : World) : Calls Try.prog 73 #[.int .i64 f, .agg #[.int .i64 gy, .int .i64 lo, .int .i64 hi]] w fun r w' => r = .returned (.int .i64 (gyroE f gy)) ∧ Below w.heap.size w w' := by
  by_cases h : f ≤ gy
  · have HR : Hid (gyroE f gy = 22) := by show _ = _; unfold gyroE; rw [decide_eq_true h]; rfl
    obtain ⟨q, hq⟩ : ∃ q, w.heap.size = q := ⟨_, rfl⟩
    obtain ⟨W, hW⟩ : ∃ W, w.alloc (.cells #[.int .i64 gy, .int .i64 lo, .int .i64 hi] 121) = W := ⟨_, rfl⟩
    have hB : Below q w W := by rw [← hW, ← hq]; exact alloc_bel _ _
    have hX : Blk W q 121 [.int .i64 gy, .int .i64 lo, .int .i64 hi] := by rw [← hW, ← hq]; exact Blk.new w _ [_, _, _]
    have HW := hide hW
    have hz := hX.lt
    clear hW
    have t0 := hX.cell 0; have t1 := hX.cell 1; have t2 := hX.cell 2; simp only [List.getElem?_cons_zero, List.getElem?_cons_succ] at t0 t1 t2
    go_enter Try.func73, Try.ntmps73
    go_upto_region 1 with fail
    try simp only [hq]
    rw [HW.out]
    go_wp2
    go_ret
    exact ⟨ret_int HR.out.symm, by first | exact hB | (rw [hq]; exact hB)⟩
  · have HR : Hid (gyroE f gy = 0) := by show _ = _; unfold gyroE; rw [decide_eq_false h]; rfl
    obtain ⟨q, hq⟩ : ∃ q, w.heap.size = q := ⟨_, rfl⟩
    obtain ⟨W, hW⟩ : ∃ W, w.alloc (.cells #[.int .i64 gy, .int .i64 lo, .int .i64 hi] 121) = W := ⟨_, rfl⟩
    have hB : Below q w W := by rw [← hW, ← hq]; exact alloc_bel _ _
    have hX : Blk W q 121 [.int .i64 gy, .int .i64 lo, .int .i64 hi] := by rw [← hW, ← hq]; exact Blk.new w _ [_, _, _]
    have HW := hide hW
    have hz := hX.lt
    clear hW
    have t0 := hX.cell 0; have t1 := hX.cell 1; have t2 := hX.cell 2; simp only [List.getElem?_cons_zero, List.getElem?_cons_succ] at t0 t1 t2
    go_enter Try.func73, Try.ntmps73
    go_upto_region 1 with fail
    try simp only [hq]
    rw [HW.out]
    go_wp2
    go_ret
    exact ⟨ret_int HR.out.symm, by first | exact hB | (rw [hq]; exact hB)⟩
set_option maxHeartbeats 2000000 in
theorem refIndex_c (sq f gy lo hi cp : Int) (w : World) (h3 : 0 ≤ sq) (h4 : sq ≤ 9000000) (f0 : 1 ≤ f) (f1 : f ≤ 3000) (y0 : 0 ≤ gy) (y1 : gy ≤ 300) (c0 : -100 ≤ cp) (c1 : cp ≤ 100) (yf : gy < f) :
    Calls Try.prog 142 #[.int .i64 sq, .int .i64 f, .agg #[.int .i64 gy, .int .i64 lo, .int .i64 hi], .int .i64 cp] w fun r w' => r = .returned (.agg #[.int .i64 (idxW sq f (cp * gy)).1, .int .i64 (idxW sq f (cp * gy)).2]) ∧ Below w.heap.size w w' := by
  have pb := pull_bd y0 y1 c0 c1 yf
  have ab := all_bd f0 f1 pb.1 pb.2.1 pb.2.2
  have e1 : f * (100 * f - cp * gy) = 100 * f * f - cp * f * gy := by rw [Int.mul_sub, ← Int.mul_assoc, Int.mul_comm f 100, ← Int.mul_assoc, Int.mul_comm f cp]
  have b1 : 100 * f * f ≤ 300000 * 3000 := Int.mul_le_mul (by omega) (by omega) (by omega) (by omega)
  have b1' : 0 ≤ 100 * f * f := Int.mul_nonneg (by omega) (by omega)
  have b2 := mul_in c0 c1 (show -3000 ≤ f by omega) f1
  have HR : Hid (idxW sq f (cp * gy) = redQ (f * (100 * f - cp * gy) - 100 * sq) (f * (100 * f - cp * gy))) := rfl
  rw [e1] at ab HR
  generalize idxW sq f (cp * gy) = z at HR ⊢
  obtain ⟨Z1, hZ1⟩ : ∃ Z1, 100 * f * f = Z1 := ⟨_, rfl⟩
  obtain ⟨Z2, hZ2⟩ : ∃ Z2, cp * f = Z2 := ⟨_, rfl⟩
  rw [hZ1] at ab HR b1 b1'
  rw [hZ2] at ab HR b2
  have b3 := mul_in b2.1 b2.2 (show -300 ≤ gy by omega) y1
  obtain ⟨Z3, hZ3⟩ : ∃ Z3, Z2 * gy = Z3 := ⟨_, rfl⟩
  rw [hZ3] at ab HR b3
  have HLO := hide (fun W => lowest_c (Z1 - Z3 - 100 * sq) (Z1 - Z3) W (by omega) (by omega) (by omega) (by omega))
  rw [← HR.out] at HLO
  clear HR e1 pb
  obtain ⟨za, zb⟩ := z
  dsimp only at HLO ⊢
  obtain ⟨q, hq⟩ : ∃ q, w.heap.size = q := ⟨_, rfl⟩
  obtain ⟨q1, hq1⟩ : ∃ q1, q + 1 = q1 := ⟨_, rfl⟩
  obtain ⟨Wa, hWa⟩ : ∃ Wa, w.alloc (.cells #[.int .i64 gy, .int .i64 lo, .int .i64 hi] 121) = Wa := ⟨_, rfl⟩
  have ba : Below w.heap.size w Wa := by rw [← hWa]; exact alloc_bel _ _
  have sa : Wa.heap.size = q1 := by rw [← hWa, ← hq1, ← hq]; simp
  have ka : Blk Wa q 121 [.int .i64 gy, .int .i64 lo, .int .i64 hi] := by rw [← hWa, ← hq]; exact Blk.new w _ [_, _, _]
  obtain ⟨W, hWb⟩ : ∃ W, Wa.alloc (.cells #[.int .i64 0, .int .i64 0] 26) = W := ⟨_, rfl⟩
  have bb : Below Wa.heap.size Wa W := by rw [← hWb]; exact alloc_bel _ _
  have k2 : Blk W q1 26 [.int .i64 0, .int .i64 0] := by rw [← hWb, ← sa]; exact Blk.new Wa _ [_, _]
  have hAB : (w.alloc (.cells #[.int .i64 gy, .int .i64 lo, .int .i64 hi] 121)).alloc (.cells #[.int .i64 0, .int .i64 0] 26) = W := by rw [hWa, hWb]
  have HW := hide hAB
  have k1 := ka.bel bb
  have hB : Below q w W := by
    rw [hq] at ba
    exact ba.trans (bb.mono (by omega))
  have z1 := k1.lt
  have z2 := k2.lt
  clear hAB hWa hWb ba bb ka sa
  have t0 := k1.cell 0; have t1 := k1.cell 1; have t2 := k1.cell 2; simp only [List.getElem?_cons_zero, List.getElem?_cons_succ] at t0 t1 t2
  go_enter Try.func142, Try.ntmps142
  go_upto_region 1 with fail
  try simp only [World.size_alloc, hq, hq1]
  rw [HW.out]
  go_wp2_with (go_at_call 87; refine (HLO.out _).mono ?_; rintro e_ w1 ⟨rfl, hb1⟩; have k21 := k2.bel hb1; have hB1 : Below q w w1 := hB.trans (hb1.mono (by omega)); obtain ⟨x0, x1, g0, g1⟩ := blk_two k21; have z21 := k21.lt)
  obtain ⟨WE, hWE⟩ : ∃ WE, (w1.setCell ⟨q1, 0, none⟩ (.int .i64 za)).setCell ⟨q1, 1, none⟩ (.int .i64 zb) = WE := ⟨_, rfl⟩
  rw [hWE]
  have hE : Blk WE q1 26 [.int .i64 za, .int .i64 zb] := by rw [← hWE]; exact (k21.set_ 0 _).set_ 1 _
  have hBE : Below q w WE := by rw [← hWE]; exact (hB1.setCell (by show q ≤ q1; omega) _).setCell (by show q ≤ q1; omega) _
  clear hWE g0 g1
  have g0 := hE.cell 0; have g1 := hE.cell 1; simp only [List.getElem?_cons_zero, List.getElem?_cons_succ] at g0 g1
  exact bodyPost_ret (v := .agg #[.int .i64 za, .int .i64 zb]) (by simp [results, Try.results142, go_sem, g0, g1]; try rfl) rfl ⟨rfl, by first | exact hBE | (rw [hq]; exact hBE)⟩
theorem rd_at4 {w : World} {A : Option Addr} {L : List G} (h : Rd w A (gs L)) {k : Nat} (hk : k * 2 + 1 < L.length) : ∃ b off, A = some ⟨b, off, none⟩ ∧ b < w.heap.size ∧ w.cell? ⟨b, off + k * 4, none⟩ = some (.int .i64 L[k * 2].1) ∧ w.cell? ⟨b, off + k * 4 + 1, none⟩ = some (.int .i64 L[k * 2].2) ∧ w.cell? ⟨b, off + k * 4 + 2, none⟩ = some (.int .i64 L[k * 2 + 1].1) ∧ w.cell? ⟨b, off + k * 4 + 3, none⟩ = some (.int .i64 L[k * 2 + 1].2) := by
  obtain ⟨b, off, rfl, hb, c0, c1⟩ := h.g_at (show k * 2 < L.length by omega)
  obtain ⟨_, _, e, _, c2, c3⟩ := h.g_at hk
  injection e with e
  injection e with e1 e2
  subst e1 e2
  rw [show k * 2 * 2 = k * 4 by omega] at c0 c1
  rw [show (k * 2 + 1) * 2 = k * 4 + 2 by omega] at c2 c3
  exact ⟨b, off, rfl, hb, c0, c1, c2, c3⟩
set_option maxHeartbeats 2000000 in
theorem sameSpans_c (L : List G) (n : Nat) (hL : L.length = n * 2) (hn : n ≤ 1000) (A B : Option Addr) (c d : Nat) (w : World) (hr : Rd w A (gs L)) (hs : Rd w B (gs L)) :
    Calls Try.prog 74 #[.slice A n c, .slice B n d] w fun r w' => r = .returned (.bool true) ∧ Below w.heap.size w w' := by
  have HL := hide hL
  clear hL
  go_enter Try.func74, Try.ntmps74
  go_wp2
  go_loopw [5] (fun i wr => ∃ k : Nat, k ≤ n ∧ i = .int .i64 k ∧ Below w.heap.size w wr) (fun i _ => n - (intOf i).toNat)
  case atStart => exact ⟨0, Nat.zero_le _, rfl, Below.refl _ _⟩
  case round =>
    obtain ⟨k, hk, rfl, hb⟩ := hrel
    by_cases hlt : k < n
    · obtain ⟨b, off, rfl, hblt, c0, c1, c2, c3⟩ := rd_at4 (hr.bel hb) (show k * 2 + 1 < L.length by have := HL.out; omega)
      obtain ⟨b', off', rfl, hblt', d0, d1, d2, d3⟩ := rd_at4 (hs.bel hb) (show k * 2 + 1 < L.length by have := HL.out; omega)
      generalize (L[k * 2]'(by have := HL.out; omega)) = x at c0 c1 d0 d1
      generalize (L[k * 2 + 1]'(by have := HL.out; omega)) = y at c2 c3 d2 d3
      obtain ⟨x1, x2⟩ := x
      obtain ⟨y1, y2⟩ := y
      dsimp only at c0 c1 c2 c3 d0 d1 d2 d3
      go_wp2
      go_quiet (fail)
      go_wp2
      go_roundw
      case rel => exact ⟨k + 1, by omega, by go_num, below_drewN hb _⟩
      case measure => simp [intOf]; omega
    · obtain rfl : k = n := by omega
      go_wp2
      go_ret
      exact ⟨rfl, hb⟩
end Go.Proofs.Ytkcjiejdjdcbeaa

/- Contracts: the reference's spans, its answer with a field. -/
set_option linter.unusedSimpArgs false
set_option linter.unusedVariables false
namespace Go.Proofs.Ytkcjiejdjdcbeaa
open Go.RowKit
set_option maxRecDepth 100000

set_option maxHeartbeats 8000000 in
theorem refSpans_c (H f gy lo hi : Int) (A : Option Addr) (c : Nat) (l : List G) (w : World) (hr : Rd w A (gs l)) (hll : l.length ≤ 12) (hok : OkS l) (ho : OkF f gy lo hi) :
    Calls Try.prog 75 #[.agg #[.int .i64 H, .slice A l.length c], .int .i64 f, .agg #[.int .i64 gy, .int .i64 lo, .int .i64 hi]] w fun r w' => (∃ A' c', r = .returned (.slice A' l.length c') ∧ Rd w' A' (gs (spnL f gy lo hi l))) ∧ Below w.heap.size w w' := by
  obtain ⟨i0, hi0, iz0, iz1, iz2⟩ := info_parts Try.infoSp
  have HIX : Hid (∀ k (hk : k < l.length) W cp, -100 ≤ cp → cp ≤ 100 → Calls Try.prog 142 #[.int .i64 l[k].2, .int .i64 f, .agg #[.int .i64 gy, .int .i64 lo, .int .i64 hi], .int .i64 cp] W fun r w' => r = .returned (.agg #[.int .i64 (idxW l[k].2 f (cp * gy)).1, .int .i64 (idxW l[k].2 f (cp * gy)).2]) ∧ Below W.heap.size W w') := by
    intro k hk W cp h1 h2
    have o := hok _ (List.getElem_mem hk)
    exact refIndex_c l[k].2 f gy lo hi cp W o.2.2.1 o.2.2.2 ho.f0 ho.f1 ho.y0 ho.y1 h1 h2 ho.yf
  have l0' := ho.lo0
  have l1' := ho.lo1
  have h0' := ho.hi0
  have h1' := ho.hi1
  clear ho hok
  obtain ⟨q, hq⟩ : ∃ q, w.heap.size = q := ⟨_, rfl⟩
  obtain ⟨q1, hq1⟩ : ∃ q1, q + 1 = q1 := ⟨_, rfl⟩
  obtain ⟨Wa, hWa⟩ : ∃ Wa, w.alloc (.cells #[.int .i64 H, .slice A l.length c] 24) = Wa := ⟨_, rfl⟩
  have ba : Below w.heap.size w Wa := by rw [← hWa]; exact alloc_bel _ _
  have sa : Wa.heap.size = q1 := by rw [← hWa, ← hq1, ← hq]; simp
  have ka : Blk Wa q 24 [.int .i64 H, .slice A l.length c] := by rw [← hWa, ← hq]; exact Blk.new w _ [_, _]
  obtain ⟨w0, hWb⟩ : ∃ w0, Wa.alloc (.cells #[.int .i64 gy, .int .i64 lo, .int .i64 hi] 121) = w0 := ⟨_, rfl⟩
  have bb : Below Wa.heap.size Wa w0 := by rw [← hWb]; exact alloc_bel _ _
  have kF0 : Blk w0 q1 121 [.int .i64 gy, .int .i64 lo, .int .i64 hi] := by rw [← hWb, ← sa]; exact Blk.new Wa _ [_, _, _]
  have hAB : (w.alloc (.cells #[.int .i64 H, .slice A l.length c] 24)).alloc (.cells #[.int .i64 gy, .int .i64 lo, .int .i64 hi] 121) = w0 := by rw [hWa, hWb]
  have HW := hide hAB
  have kS0 := ka.bel bb
  have hB0 : Below q w w0 := by
    rw [hq] at ba
    exact ba.trans (bb.mono (by omega))
  have y0 := kS0.lt
  have x0 := kF0.lt
  clear hAB hWa hWb ba bb ka sa
  go_enter Try.func75, Try.ntmps75
  go_upto_region 1 with fail
  try simp only [World.size_alloc, hq, hq1]
  rw [HW.out]
  go_wp2
  go_loopw [7, 8] (fun v i wr => ∃ k : Nat, k ≤ l.length ∧ i = .int .i64 k ∧ Below q w wr ∧ Blk wr q 24 [.int .i64 H, .slice A l.length c] ∧ Blk wr q1 121 [.int .i64 gy, .int .i64 lo, .int .i64 hi] ∧ w0.heap.size ≤ wr.heap.size ∧ wr.ownsRow w0.heap.size 137 4 v k (gs (spnL f gy lo hi (l.take k)))) (fun _ i _ => l.length - (intOf i).toNat)
  case atStart => exact ⟨0, Nat.zero_le _, rfl, hB0, kS0, kF0, Nat.le_refl _, by simpa [spnL] using World.ownsRow_nil _ _ _ _⟩
  case round =>
    clear kS0 kF0 hB0
    obtain ⟨k, hk, rfl, hB5, kS5, kF5, hz5, hown5⟩ := hrel
    obtain ⟨w5, rfl⟩ : ∃ w5, w5 = wr := ⟨_, rfl⟩
    have hr5 : Rd w5 A (gs l) := hr.below hB5 (by omega)
    have y5 := kS5.lt
    have x5 := kF5.lt
    obtain ⟨A5, c5, rfl⟩ := ownsRow_slice hown5
    have s0 := kS5.cell 0; have s1 := kS5.cell 1; simp only [List.getElem?_cons_zero, List.getElem?_cons_succ] at s0 s1
    by_cases hlt : k < l.length
    · obtain ⟨bs, os, rfl, hbs, d0, d1⟩ := hr5.g_at hlt
      have HT := hide (spnL_take (f := f) (gy := gy) (lo := lo) (hi := hi) hlt)
      have HX1 := hide (fun W => HIX.out k hlt W hi h0' h1')
      have HX2 := hide (fun W => HIX.out k hlt W lo l0' l1')
      generalize idxW l[k].2 f (hi * gy) = x at HT HX1
      generalize idxW l[k].2 f (lo * gy) = y at HT HX2
      generalize l[k] = sl at d0 d1 HX1 HX2
      obtain ⟨xa, xb⟩ := x
      obtain ⟨ya, yb⟩ := y
      obtain ⟨sa, sb⟩ := sl
      dsimp only at d0 d1 HX1 HX2
      have hlow : bs < q := by
        have h := hr.low
        have h2 := h (by intro h3; have := congrArg List.length h3; simp at this; omega) bs os rfl
        omega
      have t0 := kF5.cell 0; have t1 := kF5.cell 1; have t2 := kF5.cell 2; simp only [List.getElem?_cons_zero, List.getElem?_cons_succ] at t0 t1 t2
      have HSb : Hid (∀ W, Below w5.heap.size w5 W → (W.cell? ⟨q, 0, none⟩ = some (.int .i64 H) ∧ W.cell? ⟨q, 1, none⟩ = some (.slice (some ⟨bs, os, none⟩) l.length c) ∧ W.cell? ⟨q1, 0, none⟩ = some (.int .i64 gy) ∧ W.cell? ⟨q1, 1, none⟩ = some (.int .i64 lo) ∧ W.cell? ⟨q1, 2, none⟩ = some (.int .i64 hi) ∧ W.cell? ⟨bs, os + k * 2, none⟩ = some (.int .i64 sa) ∧ W.cell? ⟨bs, os + k * 2 + 1, none⟩ = some (.int .i64 sb)) ∧ True) :=
        fun W hb => ⟨⟨((bcell hb).1 _ _ y5).trans s0, ((bcell hb).1 _ _ y5).trans s1, ((bcell hb).1 _ _ x5).trans t0, ((bcell hb).1 _ _ x5).trans t1, ((bcell hb).1 _ _ x5).trans t2, ((bcell hb).1 _ _ hbs).trans d0, ((bcell hb).1 _ _ hbs).trans d1⟩, trivial⟩
      have ik : (k : Int) < (l.length : Int) := by omega
      go_upto_region 5 with fail
      clear s0 s1 t0 t1 t2 d0 d1
      have hbd : Below w5.heap.size w5 w5.drew := (Below.refl _ _).drew
      have hSd := HSb.out _ hbd
      refine wp_region_held (S := fun W => (W.cell? ⟨q, 0, none⟩ = some (.int .i64 H) ∧ W.cell? ⟨q, 1, none⟩ = some (.slice (some ⟨bs, os, none⟩) l.length c) ∧ W.cell? ⟨q1, 0, none⟩ = some (.int .i64 gy) ∧ W.cell? ⟨q1, 1, none⟩ = some (.int .i64 lo) ∧ W.cell? ⟨q1, 2, none⟩ = some (.int .i64 hi) ∧ W.cell? ⟨bs, os + k * 2, none⟩ = some (.int .i64 sa) ∧ W.cell? ⟨bs, os + k * 2 + 1, none⟩ = some (.int .i64 sb)) ∧ True) (by kernel_rfl) ?_
      change wpAnyH _ _ _ _ _ _ _ _ w5.drew
      refine wpAnyH_take (i := 0) (v := ?_) rfl (by kernel_rfl) (by kernel_rfl) (by kernel_rfl) (fun _ _ _ h => h) (Or.inl ⟨by kernel_rfl, ?_⟩) (by assumption) ?_
      rotate_left 1
      · (intro w hSw; obtain ⟨⟨hk1, hk2, hk3, hk4, hk5, hk6, hk7⟩, _⟩ := hSw; go_simp <;> with_reducible rfl)
      simp only [Act.put, List.getElem_toArray, List.getElem_cons_zero, List.setIfInBounds_toArray, List.set_cons_zero, List.set_cons_succ]
      refine wpAnyH_take (i := 1) (v := ?_) rfl (by kernel_rfl) (by kernel_rfl) (by kernel_rfl) (fun _ _ _ h => h) (Or.inl ⟨by kernel_rfl, ?_⟩) (by assumption) ?_
      rotate_left 1
      · (intro w hSw; obtain ⟨⟨hk1, hk2, hk3, hk4, hk5, hk6, hk7⟩, _⟩ := hSw; go_simp <;> with_reducible rfl)
      simp only [Act.put, List.getElem_toArray, List.getElem_cons_zero, List.getElem_cons_succ, List.setIfInBounds_toArray, List.set_cons_zero, List.set_cons_succ]
      refine wpAnyH_take (i := 2) (v := ?_) rfl (by kernel_rfl) (by kernel_rfl) (by kernel_rfl) (fun _ _ _ h => h) (Or.inl ⟨by kernel_rfl, ?_⟩) (by assumption) ?_
      rotate_left 1
      · (intro w hSw; obtain ⟨⟨hk1, hk2, hk3, hk4, hk5, hk6, hk7⟩, _⟩ := hSw; go_simp <;> with_reducible rfl)
      simp only [Act.put, List.getElem_toArray, List.getElem_cons_zero, List.getElem_cons_succ, List.setIfInBounds_toArray, List.set_cons_zero, List.set_cons_succ]
      refine wpAnyH_take (i := 3) (v := ?_) rfl (by kernel_rfl) (by kernel_rfl) (by kernel_rfl) (fun _ _ _ h => h) (Or.inl ⟨by kernel_rfl, ?_⟩) (by assumption) ?_
      rotate_left 1
      · (intro w hSw; obtain ⟨⟨hk1, hk2, hk3, hk4, hk5, hk6, hk7⟩, _⟩ := hSw; go_simp <;> with_reducible rfl)
      simp only [Act.put, List.getElem_toArray, List.getElem_cons_zero, List.getElem_cons_succ, List.setIfInBounds_toArray, List.set_cons_zero, List.set_cons_succ]
      refine wpAnyH_take (i := 4) (v := ?_) rfl (by kernel_rfl) (by kernel_rfl) (by kernel_rfl) (fun _ _ _ h => h) (Or.inl ⟨by kernel_rfl, ?_⟩) (by assumption) ?_
      rotate_left 1
      · (intro w hSw; obtain ⟨⟨hk1, hk2, hk3, hk4, hk5, hk6, hk7⟩, _⟩ := hSw; go_simp <;> with_reducible rfl)
      simp only [Act.put, List.getElem_toArray, List.getElem_cons_zero, List.getElem_cons_succ, List.setIfInBounds_toArray, List.set_cons_zero, List.set_cons_succ]
      refine wpAnyH_take (i := 5) (v := ?_) rfl (by kernel_rfl) (by kernel_rfl) (by kernel_rfl) (fun _ _ _ h => h) (Or.inl ⟨by kernel_rfl, ?_⟩) (by assumption) ?_
      rotate_left 1
      · (intro w hSw; obtain ⟨⟨hk1, hk2, hk3, hk4, hk5, hk6, hk7⟩, _⟩ := hSw; go_simp <;> with_reducible rfl)
      simp only [Act.put, List.getElem_toArray, List.getElem_cons_zero, List.getElem_cons_succ, List.setIfInBounds_toArray, List.set_cons_zero, List.set_cons_succ]
      refine wpAnyH_take (i := 6) (v := ?_) rfl (by kernel_rfl) (by kernel_rfl) (by kernel_rfl) (fun _ _ _ h => h) (Or.inl ⟨by kernel_rfl, ?_⟩) (by assumption) ?_
      rotate_left 1
      · (intro w hSw; obtain ⟨⟨hk1, hk2, hk3, hk4, hk5, hk6, hk7⟩, _⟩ := hSw; go_simp <;> with_reducible rfl)
      simp only [Act.put, List.getElem_toArray, List.getElem_cons_zero, List.getElem_cons_succ, List.setIfInBounds_toArray, List.set_cons_zero, List.set_cons_succ]
      refine wpAnyH_take (i := 7) (v := ?_) rfl (by kernel_rfl) (by kernel_rfl) (by kernel_rfl) (fun _ _ _ h => h) (Or.inl ⟨by kernel_rfl, ?_⟩) (by assumption) ?_
      rotate_left 1
      · (intro w hSw; obtain ⟨⟨hk1, hk2, hk3, hk4, hk5, hk6, hk7⟩, _⟩ := hSw; go_simp <;> with_reducible rfl)
      simp only [Act.put, List.getElem_toArray, List.getElem_cons_zero, List.getElem_cons_succ, List.setIfInBounds_toArray, List.set_cons_zero, List.set_cons_succ]
      refine wpAnyH_take (i := 8) (v := ?_) rfl (by kernel_rfl) (by kernel_rfl) (by kernel_rfl) (fun _ _ _ h => h) (Or.inl ⟨by kernel_rfl, ?_⟩) (by assumption) ?_
      rotate_left 1
      · (intro w hSw; obtain ⟨⟨hk1, hk2, hk3, hk4, hk5, hk6, hk7⟩, _⟩ := hSw; go_simp <;> with_reducible rfl)
      simp only [Act.put, List.getElem_toArray, List.getElem_cons_zero, List.getElem_cons_succ, List.setIfInBounds_toArray, List.set_cons_zero, List.set_cons_succ]
      refine wpAnyH_take (i := 9) (v := ?_) rfl (by kernel_rfl) (by kernel_rfl) (by kernel_rfl) (fun _ _ _ h => h) (Or.inl ⟨by kernel_rfl, ?_⟩) (by assumption) ?_
      rotate_left 1
      · (intro w hSw; obtain ⟨⟨hk1, hk2, hk3, hk4, hk5, hk6, hk7⟩, _⟩ := hSw; go_simp <;> with_reducible rfl)
      simp only [Act.put, List.getElem_toArray, List.getElem_cons_zero, List.getElem_cons_succ, List.setIfInBounds_toArray, List.set_cons_zero, List.set_cons_succ]
      refine wpAnyH_take (i := 10) (v := ?_) rfl (by kernel_rfl) (by kernel_rfl) (by kernel_rfl) (fun _ _ _ h => h) (Or.inl ⟨by kernel_rfl, ?_⟩) (by assumption) ?_
      rotate_left 1
      · (intro w hSw; obtain ⟨⟨hk1, hk2, hk3, hk4, hk5, hk6, hk7⟩, _⟩ := hSw; go_simp <;> with_reducible rfl)
      simp only [Act.put, List.getElem_toArray, List.getElem_cons_zero, List.getElem_cons_succ, List.setIfInBounds_toArray, List.set_cons_zero, List.set_cons_succ]
      refine wpAnyH_take (i := 11) (v := ?_) rfl (by kernel_rfl) (by kernel_rfl) (by kernel_rfl) (fun _ _ _ h => h) (Or.inl ⟨by kernel_rfl, ?_⟩) (by assumption) ?_
      rotate_left 1
      · (intro w hSw; obtain ⟨⟨hk1, hk2, hk3, hk4, hk5, hk6, hk7⟩, _⟩ := hSw; go_simp <;> with_reducible rfl)
      simp only [Act.put, List.getElem_toArray, List.getElem_cons_zero, List.getElem_cons_succ, List.setIfInBounds_toArray, List.set_cons_zero, List.set_cons_succ]
      refine wpAnyH_take (i := 13) (v := ?_) rfl (by kernel_rfl) (by kernel_rfl) (by kernel_rfl) (fun _ _ _ h => h) (Or.inl ⟨by kernel_rfl, ?_⟩) (by assumption) ?_
      rotate_left 1
      · (intro w hSw; obtain ⟨⟨hk1, hk2, hk3, hk4, hk5, hk6, hk7⟩, _⟩ := hSw; go_simp <;> with_reducible rfl)
      simp only [Act.put, List.getElem_toArray, List.getElem_cons_zero, List.getElem_cons_succ, List.setIfInBounds_toArray, List.set_cons_zero, List.set_cons_succ]
      refine wpAnyH_take (i := 14) (v := ?_) rfl (by kernel_rfl) (by kernel_rfl) (by kernel_rfl) (fun _ _ _ h => h) (Or.inl ⟨by kernel_rfl, ?_⟩) (by assumption) ?_
      rotate_left 1
      · (intro w hSw; obtain ⟨⟨hk1, hk2, hk3, hk4, hk5, hk6, hk7⟩, _⟩ := hSw; go_simp <;> with_reducible rfl)
      simp only [Act.put, List.getElem_toArray, List.getElem_cons_zero, List.getElem_cons_succ, List.setIfInBounds_toArray, List.set_cons_zero, List.set_cons_succ]
      refine wpAnyH_take (i := 15) (v := ?_) rfl (by kernel_rfl) (by kernel_rfl) (by kernel_rfl) (fun _ _ _ h => h) (Or.inl ⟨by kernel_rfl, ?_⟩) (by assumption) ?_
      rotate_left 1
      · (intro w hSw; obtain ⟨⟨hk1, hk2, hk3, hk4, hk5, hk6, hk7⟩, _⟩ := hSw; go_simp <;> with_reducible rfl)
      simp only [Act.put, List.getElem_toArray, List.getElem_cons_zero, List.getElem_cons_succ, List.setIfInBounds_toArray, List.set_cons_zero, List.set_cons_succ]
      refine wpAnyH_take (i := 16) (v := ?_) rfl (by kernel_rfl) (by kernel_rfl) (by kernel_rfl) (fun _ _ _ h => h) (Or.inl ⟨by kernel_rfl, ?_⟩) (by assumption) ?_
      rotate_left 1
      · (intro w hSw; obtain ⟨⟨hk1, hk2, hk3, hk4, hk5, hk6, hk7⟩, _⟩ := hSw; go_simp <;> with_reducible rfl)
      simp only [Act.put, List.getElem_toArray, List.getElem_cons_zero, List.getElem_cons_succ, List.setIfInBounds_toArray, List.set_cons_zero, List.set_cons_succ]
      refine wpAnyH_take (i := 17) (v := ?_) rfl (by kernel_rfl) (by kernel_rfl) (by kernel_rfl) (fun _ _ _ h => h) (Or.inl ⟨by kernel_rfl, ?_⟩) (by assumption) ?_
      rotate_left 1
      · (intro w hSw; obtain ⟨⟨hk1, hk2, hk3, hk4, hk5, hk6, hk7⟩, _⟩ := hSw; go_simp <;> with_reducible rfl)
      simp only [Act.put, List.getElem_toArray, List.getElem_cons_zero, List.getElem_cons_succ, List.setIfInBounds_toArray, List.set_cons_zero, List.set_cons_succ]
      refine wpAnyH_take (i := 18) (v := ?_) rfl (by kernel_rfl) (by kernel_rfl) (by kernel_rfl) (fun _ _ _ h => h) (Or.inl ⟨by kernel_rfl, ?_⟩) (by assumption) ?_
      rotate_left 1
      · (intro w hSw; obtain ⟨⟨hk1, hk2, hk3, hk4, hk5, hk6, hk7⟩, _⟩ := hSw; go_simp <;> with_reducible rfl)
      simp only [Act.put, List.getElem_toArray, List.getElem_cons_zero, List.getElem_cons_succ, List.setIfInBounds_toArray, List.set_cons_zero, List.set_cons_succ]
      refine wpAnyH_take (i := 19) (v := ?_) rfl (by kernel_rfl) (by kernel_rfl) (by kernel_rfl) (fun _ _ _ h => h) (Or.inl ⟨by kernel_rfl, ?_⟩) (by assumption) ?_
      rotate_left 1
      · (intro w hSw; obtain ⟨⟨hk1, hk2, hk3, hk4, hk5, hk6, hk7⟩, _⟩ := hSw; go_simp <;> with_reducible rfl)
      simp only [Act.put, List.getElem_toArray, List.getElem_cons_zero, List.getElem_cons_succ, List.setIfInBounds_toArray, List.set_cons_zero, List.set_cons_succ]
      refine wpAnyH_take (i := 20) (v := ?_) rfl (by kernel_rfl) (by kernel_rfl) (by kernel_rfl) (fun _ _ _ h => h) (Or.inl ⟨by kernel_rfl, ?_⟩) (by assumption) ?_
      rotate_left 1
      · (intro w hSw; obtain ⟨⟨hk1, hk2, hk3, hk4, hk5, hk6, hk7⟩, _⟩ := hSw; go_simp <;> with_reducible rfl)
      simp only [Act.put, List.getElem_toArray, List.getElem_cons_zero, List.getElem_cons_succ, List.setIfInBounds_toArray, List.set_cons_zero, List.set_cons_succ]
      refine wpAnyH_take (i := 21) (v := ?_) rfl (by kernel_rfl) (by kernel_rfl) (by kernel_rfl) (fun _ _ _ h => h) (Or.inl ⟨by kernel_rfl, ?_⟩) (by assumption) ?_
      rotate_left 1
      · (intro w hSw; obtain ⟨⟨hk1, hk2, hk3, hk4, hk5, hk6, hk7⟩, _⟩ := hSw; go_simp <;> with_reducible rfl)
      simp only [Act.put, List.getElem_toArray, List.getElem_cons_zero, List.getElem_cons_succ, List.setIfInBounds_toArray, List.set_cons_zero, List.set_cons_succ]
      refine wpAnyH_take (i := 22) (v := ?_) rfl (by kernel_rfl) (by kernel_rfl) (by kernel_rfl) (fun _ _ _ h => h) (Or.inl ⟨by kernel_rfl, ?_⟩) (by assumption) ?_
      rotate_left 1
      · (intro w hSw; obtain ⟨⟨hk1, hk2, hk3, hk4, hk5, hk6, hk7⟩, _⟩ := hSw; go_simp <;> with_reducible rfl)
      simp only [Act.put, List.getElem_toArray, List.getElem_cons_zero, List.getElem_cons_succ, List.setIfInBounds_toArray, List.set_cons_zero, List.set_cons_succ]
      refine wpAnyH_take (i := 23) (v := ?_) rfl (by kernel_rfl) (by kernel_rfl) (by kernel_rfl) (fun _ _ _ h => h) (Or.inl ⟨by kernel_rfl, ?_⟩) (by assumption) ?_
      rotate_left 1
      · (intro w hSw; obtain ⟨⟨hk1, hk2, hk3, hk4, hk5, hk6, hk7⟩, _⟩ := hSw; go_simp <;> with_reducible rfl)
      simp only [Act.put, List.getElem_toArray, List.getElem_cons_zero, List.getElem_cons_succ, List.setIfInBounds_toArray, List.set_cons_zero, List.set_cons_succ]
      refine nextH (i := 12) (by kernel_rfl) rfl (fun K hK => ?_)
      go_simp
      refine (HX1.out _).mono ?_
      rintro e_ w6 ⟨rfl, hb6⟩
      have hb56 := bel_tr hbd hbd.size hb6
      try dsimp only
      refine hK _ _ (HSb.out _ hb56) ?_
      clear hK K hSd
      refine nextH (i := 24) (by kernel_rfl) rfl (fun K hK => ?_)
      go_simp
      refine (HX2.out _).mono ?_
      rintro e_ w66 ⟨rfl, hb66⟩
      have hb566 := bel_tr hb56 hb56.size hb66
      try dsimp only
      refine hK _ _ (HSb.out _ hb566) ?_
      clear hK K
      have hSd := HSb.out _ hb566
      refine wpAnyH_take (i := 25) (v := ?_) rfl (by kernel_rfl) (by kernel_rfl) (by kernel_rfl) (fun _ _ _ h => h) (Or.inl ⟨by kernel_rfl, ?_⟩) (by assumption) ?_
      rotate_left 1
      · (intro w hSw; obtain ⟨⟨hk1, hk2, hk3, hk4, hk5, hk6, hk7⟩, _⟩ := hSw; go_simp <;> with_reducible rfl)
      simp only [Act.put, List.getElem_toArray, List.getElem_cons_zero, List.getElem_cons_succ, List.setIfInBounds_toArray, List.set_cons_zero, List.set_cons_succ]
      refine nextH (i := 26) (by kernel_rfl) rfl (fun K hK => ?_)
      go_simp
      have hb57 := bel_alloc hb566 hb566.size (.cells #[.int .i64 xa, .int .i64 xb, .int .i64 ya, .int .i64 yb] 137)
      have hz1 : Blk (w66.alloc (.cells #[.int .i64 xa, .int .i64 xb, .int .i64 ya, .int .i64 yb] 137)) w66.heap.size 137 (gs [(xa, xb), (ya, yb)]) := Blk.new w66 _ _
      obtain ⟨gz, hgz⟩ : ∃ gz, w66.heap.size = gz := ⟨_, rfl⟩
      obtain ⟨w7, hw7⟩ : ∃ w7, w66.alloc (.cells #[.int .i64 xa, .int .i64 xb, .int .i64 ya, .int .i64 yb] 137) = w7 := ⟨_, rfl⟩
      rw [hw7] at hb57 hz1 ⊢
      rw [hgz] at hz1
      try simp only [hgz]
      refine hK _ _ (HSb.out _ hb57) ?_
      clear hK K hw7 hgz hb6 hb56 hbd hb66 hb566 hSd
      have kS7 := kS5.bel hb57
      have kF7 := kF5.bel hb57
      have hown7 := ownsRow_bel hown5 hb57
      have hB7 : Below q w w7 := hB5.trans (hb57.mono (by omega))
      have hz7 : w0.heap.size ≤ w7.heap.size := by have := hb57.size; omega
      have hS7 := HSb.out _ hb57
      have hlt7 := hown7.lt
      clear kS5 kF5 hr5 hown5 hB5 hz5 HSb hb57
      refine nextH (i := 27) (by kernel_rfl) rfl (fun K hK => ?_)
      refine step_append_rd _ (by rfl) _ _ _ (by rfl) w0.heap.size 137 i0 _ 4 32 Try.underlying124 hi0 iz0 iz1 iz2 rfl (by decide) (.slice A5 k c5) k (gs (spnL f gy lo hi (l.take k))) (by rfl) hown7 (some ⟨gz, 0, none⟩) 1 1 (gs [(xa, xb), (ya, yb)]) (by rfl) (by simp) (hz1.rd (List.prefix_refl _)) (gs_one _) (by unfold maxLen; omega) (by omega) hz7 ?_
      intro v8 W8 hown8 hg8
      have hS8 : (W8.cell? ⟨q, 0, none⟩ = some (.int .i64 H) ∧ W8.cell? ⟨q, 1, none⟩ = some (.slice (some ⟨bs, os, none⟩) l.length c) ∧ W8.cell? ⟨q1, 0, none⟩ = some (.int .i64 gy) ∧ W8.cell? ⟨q1, 1, none⟩ = some (.int .i64 lo) ∧ W8.cell? ⟨q1, 2, none⟩ = some (.int .i64 hi) ∧ W8.cell? ⟨bs, os + k * 2, none⟩ = some (.int .i64 sa) ∧ W8.cell? ⟨bs, os + k * 2 + 1, none⟩ = some (.int .i64 sb)) ∧ True := by
        obtain ⟨⟨a1, a2, a3, a4, a5, a6, a7⟩, _⟩ := hS7
        have n1 : ∀ b : Nat, b < w0.heap.size → some b ≠ (Value.slice A5 k c5).ownBlock := fun b hb he => by have := (hlt7 b he.symm).1; omega
        exact ⟨⟨hg8.cell a1 (n1 q (by omega)), hg8.cell a2 (n1 q (by omega)), hg8.cell a3 (n1 q1 (by omega)), hg8.cell a4 (n1 q1 (by omega)), hg8.cell a5 (n1 q1 (by omega)), hg8.cell a6 (n1 bs (by omega)), hg8.cell a7 (n1 bs (by omega))⟩, trivial⟩
      have hB8 : Below q w W8 := hB7.grown hg8 (by omega) (fun j hj => by have := (hlt7 j hj).1; omega)
      have kS8 : Blk W8 q 24 [.int .i64 H, .slice (some ⟨bs, os, none⟩) l.length c] := (hg8.block q kS7.lt (fun he => by have := (hlt7 q he.symm).1; omega)).trans kS7
      have kF8 : Blk W8 q1 121 [.int .i64 gy, .int .i64 lo, .int .i64 hi] := (hg8.block q1 kF7.lt (fun he => by have := (hlt7 q1 he.symm).1; omega)).trans kF7
      have hz8 : w0.heap.size ≤ W8.heap.size := by have := hg8.size; omega
      simp only [Act.put, List.getElem_toArray, List.getElem_cons_zero, List.getElem_cons_succ, List.setIfInBounds_toArray, List.set_cons_zero, List.set_cons_succ]
      refine hK _ _ hS8 ?_
      clear hK K kS7 kF7 hown7 hB7 hz7 hlt7 hg8 hS7
      refine nextH (i := 28) (by kernel_rfl) rfl (fun K hK => ?_)
      go_simp
      refine hK _ _ hS8 ?_
      clear hK K
      refine wpAnyH_done (by kernel_rfl) ?_ _
      go_wp2
      go_roundw
      case rel => exact ⟨k + 1, by omega, by go_num, hB8, kS8, kF8, hz8, by rw [HT.out, gs_append]; exact hown8⟩
      case measure => simp [intOf]; omega
    · obtain rfl : k = l.length := by omega
      rw [List.take_length] at hown5
      go_wp2
      go_ret
      exact ⟨⟨_, _, rfl, Rd.of_own hown5⟩, by first | exact hB5 | (rw [hq]; exact hB5)⟩
end Go.Proofs.Ytkcjiejdjdcbeaa

/- Contracts: the reference's answer whether a ray is reflected with a field. -/
set_option linter.unusedSimpArgs false
set_option linter.unusedVariables false
namespace Go.Proofs.Ytkcjiejdjdcbeaa
open Go.RowKit
set_option maxRecDepth 100000

theorem cmp_le (a b n d : Int) : decide (cmpQ a b n d ≤ 0) = decide (a * d ≤ n * b) := by
  unfold cmpQ
  by_cases h : a * d ≤ n * b
  · rw [decide_eq_true h]
    split
    · rfl
    · rw [if_neg (by omega)]; rfl
  · rw [decide_eq_false h, if_neg (by omega), if_pos (by omega)]
    rfl
theorem spnL_at {f gy lo hi : Int} {l : List G} {k : Nat} (hk : k < l.length) : (spnL f gy lo hi l)[k * 2]? = some (idxW l[k].2 f (hi * gy)) ∧ (spnL f gy lo hi l)[k * 2 + 1]? = some (idxW l[k].2 f (lo * gy)) := by
  have e : spnL f gy lo hi l = spnL f gy lo hi (l.take k) ++ ([idxW l[k].2 f (hi * gy), idxW l[k].2 f (lo * gy)] ++ spnL f gy lo hi (l.drop (k + 1))) := by
    rw [← List.append_assoc, ← spnL_take hk]
    unfold spnL
    rw [← List.flatMap_append, List.take_append_drop]
  have hl : (spnL f gy lo hi (l.take k)).length = k * 2 := by rw [spnL_len, List.length_take]; congr 1; omega
  rw [e]
  constructor
  · rw [List.getElem?_append_right (by omega), hl, Nat.sub_self]; rfl
  · rw [List.getElem?_append_right (by omega), hl, show k * 2 + 1 - k * 2 = 1 by omega]; rfl
theorem any_take {p : G → Bool} {l : List G} {k : Nat} (hk : k < l.length) : (l.take (k + 1)).any p = ((l.take k).any p || p l[k]) := by
  rw [List.take_succ_eq_append_getElem hk, List.any_append]
  simp
set_option maxHeartbeats 8000000 in
theorem refReflected_c (H f gy lo hi n d : Int) (A : Option Addr) (c : Nat) (l : List G) (w : World) (hr : Rd w A (gs l)) (hll : l.length ≤ 12) (hok : OkS l) (ho : OkF f gy lo hi) (n0 : 0 ≤ n) (n1 : n ≤ 100) (d0 : 1 ≤ d) (d1 : d ≤ 100) :
    Calls Try.prog 77 #[.agg #[.int .i64 H, .slice A l.length c], .agg #[.int .i64 gy, .int .i64 lo, .int .i64 hi], .int .i64 f, .agg #[.int .i64 n, .int .i64 d]] w fun r w' => r = .returned (.int .i64 (ansB (l.any (hitW f n d gy lo)) (l.any (hitW f n d gy hi)))) ∧ Below w.heap.size w w' := by
  have HSP := hide (fun W (h : Rd W A (gs l)) => refSpans_c H f gy lo hi A c l W h hll hok ho)
  have HBD : Hid (∀ k (hk : k < l.length) cp, -100 ≤ cp → cp ≤ 100 → 1 ≤ (idxW l[k].2 f (cp * gy)).2 ∧ (idxW l[k].2 f (cp * gy)).2 ≤ 990000000 ∧ -990000000 ≤ (idxW l[k].2 f (cp * gy)).1 ∧ (idxW l[k].2 f (cp * gy)).1 ≤ 990000000) := by
    intro k hk cp h1 h2
    have o := hok _ (List.getElem_mem hk)
    have pb := pull_bd ho.y0 ho.y1 h1 h2 ho.yf
    exact idxW_bd ho.f0 ho.f1 o.2.2.1 o.2.2.2 pb.1 pb.2.1 pb.2.2
  have HAT := hide (fun k (hk : k < l.length) => spnL_at (f := f) (gy := gy) (lo := lo) (hi := hi) hk)
  have HSL := hide (spnL_len f gy lo hi l)
  have b1' := ho.lo0
  have b2' := ho.lo1
  have b3' := ho.hi0
  have b4' := ho.hi1
  clear ho hok
  obtain ⟨q, hq⟩ : ∃ q, w.heap.size = q := ⟨_, rfl⟩
  obtain ⟨q1, hq1⟩ : ∃ q1, q + 1 = q1 := ⟨_, rfl⟩
  obtain ⟨q2, hq2⟩ : ∃ q2, q1 + 1 = q2 := ⟨_, rfl⟩
  obtain ⟨Wa, hWa⟩ : ∃ Wa, w.alloc (.cells #[.int .i64 H, .slice A l.length c] 24) = Wa := ⟨_, rfl⟩
  have ba : Below w.heap.size w Wa := by rw [← hWa]; exact alloc_bel _ _
  have sa : Wa.heap.size = q1 := by rw [← hWa, ← hq1, ← hq]; simp
  have ka : Blk Wa q 24 [.int .i64 H, .slice A l.length c] := by rw [← hWa, ← hq]; exact Blk.new w _ [_, _]
  obtain ⟨Wb, hWb⟩ : ∃ Wb, Wa.alloc (.cells #[.int .i64 gy, .int .i64 lo, .int .i64 hi] 121) = Wb := ⟨_, rfl⟩
  have bb : Below Wa.heap.size Wa Wb := by rw [← hWb]; exact alloc_bel _ _
  have sb : Wb.heap.size = q2 := by rw [← hWb, ← hq2, ← sa]; simp
  have kb : Blk Wb q1 121 [.int .i64 gy, .int .i64 lo, .int .i64 hi] := by rw [← hWb, ← sa]; exact Blk.new Wa _ [_, _, _]
  obtain ⟨w0, hWc⟩ : ∃ w0, Wb.alloc (.cells #[.int .i64 n, .int .i64 d] 26) = w0 := ⟨_, rfl⟩
  have bc : Below Wb.heap.size Wb w0 := by rw [← hWc]; exact alloc_bel _ _
  have kL0 : Blk w0 q2 26 [.int .i64 n, .int .i64 d] := by rw [← hWc, ← sb]; exact Blk.new Wb _ [_, _]
  have hABC : ((w.alloc (.cells #[.int .i64 H, .slice A l.length c] 24)).alloc (.cells #[.int .i64 gy, .int .i64 lo, .int .i64 hi] 121)).alloc (.cells #[.int .i64 n, .int .i64 d] 26) = w0 := by rw [hWa, hWb, hWc]
  have HW := hide hABC
  have kS0 := (ka.bel bb).bel bc
  have kF0 := kb.bel bc
  have hr0 := ((hr.bel ba).bel bb).bel bc
  have hB0 : Below q w w0 := by
    rw [hq] at ba
    exact (ba.trans (bb.mono (by omega))).trans (bc.mono (by omega))
  have y0 := kS0.lt
  clear hABC hWa hWb hWc ba bb bc ka kb sa sb
  have s0 := kS0.cell 0; have s1 := kS0.cell 1; simp only [List.getElem?_cons_zero, List.getElem?_cons_succ] at s0 s1
  have t0 := kF0.cell 0; have t1 := kF0.cell 1; have t2 := kF0.cell 2; simp only [List.getElem?_cons_zero, List.getElem?_cons_succ] at t0 t1 t2
  have y1 := kF0.lt
  go_enter Try.func77, Try.ntmps77
  go_upto_region 1 with fail
  try simp only [World.size_alloc, hq, hq1, hq2]
  rw [HW.out]
  go_upto_region 2 with (go_at_call 75; refine (HSP.out _ hr0).mono ?_; rintro e_ w1 ⟨⟨A1, c1, rfl, ra1⟩, hb1⟩)
  have kL1 := kL0.bel hb1
  have hB1 : Below q w w1 := hB0.trans (hb1.mono (by omega))
  have hz1 : q ≤ w1.heap.size := by have := hb1.size; omega
  clear s0 s1 t0 t1 t2 kS0 kF0 kL0 hr0 hB0 y0 y1 hb1
  go_wp2
  go_loopw [10, 11, 12] (fun a b i wr => ∃ k : Nat, k ≤ l.length ∧ i = .int .i64 k ∧ a = .bool ((l.take k).any (hitW f n d gy hi)) ∧ b = .bool ((l.take k).any (hitW f n d gy lo)) ∧ Below w1.heap.size w1 wr) (fun _ _ i _ => l.length - (intOf i).toNat)
  case atStart => exact ⟨0, Nat.zero_le _, rfl, rfl, rfl, Below.refl _ _⟩
  case round =>
    obtain ⟨k, hk, rfl, rfl, rfl, hbr⟩ := hrel
    obtain ⟨w2, rfl⟩ : ∃ w2, w2 = wr := ⟨_, rfl⟩
    have ra2 := ra1.bel hbr
    have kL2 := kL1.bel hbr
    by_cases hlt : k < l.length
    · obtain ⟨b, off, rfl, hblt, c0', c1', c2', c3'⟩ := rd_at4 ra2 (show k * 2 + 1 < (spnL f gy lo hi l).length by rw [HSL.out]; omega)
      have hat := HAT.out k hlt
      have ha1 := (List.getElem?_eq_some_iff.1 hat.1).2
      have ha2 := (List.getElem?_eq_some_iff.1 hat.2).2
      rw [ha1] at c0' c1'
      rw [ha2] at c2' c3'
      have hd1 := HBD.out k hlt hi b3' b4'
      have hd2 := HBD.out k hlt lo b1' b2'
      have hc1 := cmp_le (idxW l[k].2 f (hi * gy)).1 (idxW l[k].2 f (hi * gy)).2 n d
      have hc2 := cmp_le (idxW l[k].2 f (lo * gy)).1 (idxW l[k].2 f (lo * gy)).2 n d
      rw [show decide ((idxW l[k].2 f (hi * gy)).1 * d ≤ n * (idxW l[k].2 f (hi * gy)).2) = hitW f n d gy hi l[k] from rfl] at hc1
      rw [show decide ((idxW l[k].2 f (lo * gy)).1 * d ≤ n * (idxW l[k].2 f (lo * gy)).2) = hitW f n d gy lo l[k] from rfl] at hc2
      have HC1 := hide (fun W => cmp_c (idxW l[k].2 f (hi * gy)).1 (idxW l[k].2 f (hi * gy)).2 n d W (by omega) (by omega) (by omega) (by omega) (by omega) (by omega) (by omega) (by omega))
      have HC2 := hide (fun W => cmp_c (idxW l[k].2 f (lo * gy)).1 (idxW l[k].2 f (lo * gy)).2 n d W (by omega) (by omega) (by omega) (by omega) (by omega) (by omega) (by omega) (by omega))
      have Hha : Hid _ := any_take (p := hitW f n d gy hi) hlt
      have Hhb : Hid _ := any_take (p := hitW f n d gy lo) hlt
      generalize (idxW l[k].2 f (hi * gy)).1 = u1 at c0' HC1 hc1
      generalize (idxW l[k].2 f (hi * gy)).2 = u2 at c1' HC1 hc1
      generalize (idxW l[k].2 f (lo * gy)).1 = u3 at c2' HC2 hc2
      generalize (idxW l[k].2 f (lo * gy)).2 = u4 at c3' HC2 hc2
      generalize cmpQ u1 u2 n d = e1 at HC1 hc1
      generalize cmpQ u3 u4 n d = e2 at HC2 hc2
      generalize hitW f n d gy hi l[k] = b1 at hc1 Hha
      generalize hitW f n d gy lo l[k] = b2 at hc2 Hhb
      generalize hva : (l.take (k + 1)).any (hitW f n d gy hi) = va at Hha
      generalize hvb : (l.take (k + 1)).any (hitW f n d gy lo) = vb at Hhb
      generalize (l.take k).any (hitW f n d gy hi) = fa at Hha ⊢
      generalize (l.take k).any (hitW f n d gy lo) = fb at Hhb ⊢
      have Hva : Hid (va = (fa || b1)) := Hha
      have Hvb : Hid (vb = (fb || b2)) := Hhb
      have He1 := hide hc1
      have He2 := hide hc2
      have HVA := hide hva
      have HVB := hide hvb
      clear Hha Hhb hc1 hc2 hva hvb ha1 ha2 hat hd1 hd2
      have ik : (k : Int) < (l.length : Int) := by omega
      have t0 := kL2.cell 0; have t1 := kL2.cell 1; simp only [List.getElem?_cons_zero, List.getElem?_cons_succ] at t0 t1
      have yL := kL2.lt
      go_upto_region 6 with fail
      go_cut [10] from 23 to 33 (fun x wx => x = .bool va ∧ Below w2.heap.size w2 wx)
      case first =>
        cases fa
        ·
          cases b1
          ·
            have HV : Hid (va = false) := by show _ = _; rw [Hva.out]; rfl
            have he9 : ¬ e1 ≤ 0 := by have := He1.out; simpa using this
            have hSd : (∀ b o, b < w2.heap.size → w2.drew.cell? ⟨b, o, none⟩ = w2.cell? ⟨b, o, none⟩) ∧ Below w2.heap.size w2 w2.drew := kp (Below.refl _ _).drew
            refine wp_region_held (S := fun w' => (∀ b o, b < w2.heap.size → w'.cell? ⟨b, o, none⟩ = w2.cell? ⟨b, o, none⟩) ∧ Below w2.heap.size w2 w') (by kernel_rfl) ?_
            change wpAnyH _ _ _ _ _ _ _ _ w2.drew
            refine wpAnyH_take (i := 0) (v := ?_) rfl (by kernel_rfl) (by kernel_rfl) (by kernel_rfl) (fun _ _ _ h => h) (Or.inl ⟨by kernel_rfl, ?_⟩) (by assumption) ?_
            rotate_left 1
            · (intro w hSw; obtain ⟨hk1, hk2⟩ := hSw; go_simp <;> with_reducible rfl)
            simp only [Act.put, List.getElem_toArray, List.getElem_cons_zero, List.setIfInBounds_toArray, List.set_cons_zero, List.set_cons_succ]
            refine wpAnyH_take (i := 1) (v := ?_) rfl (by kernel_rfl) (by kernel_rfl) (by kernel_rfl) (fun _ _ _ h => h) (Or.inl ⟨by kernel_rfl, ?_⟩) (by assumption) ?_
            rotate_left 1
            · (intro w hSw; obtain ⟨hk1, hk2⟩ := hSw; go_simp <;> with_reducible rfl)
            simp only [Act.put, List.getElem_toArray, List.getElem_cons_zero, List.getElem_cons_succ, List.setIfInBounds_toArray, List.set_cons_zero, List.set_cons_succ]
            refine wpAnyH_take (i := 2) (v := ?_) rfl (by kernel_rfl) (by kernel_rfl) (by kernel_rfl) (fun _ _ _ h => h) (Or.inl ⟨by kernel_rfl, ?_⟩) (by assumption) ?_
            rotate_left 1
            · (intro w hSw; obtain ⟨hk1, hk2⟩ := hSw; go_simp <;> with_reducible rfl)
            simp only [Act.put, List.getElem_toArray, List.getElem_cons_zero, List.getElem_cons_succ, List.setIfInBounds_toArray, List.set_cons_zero, List.set_cons_succ]
            refine wpAnyH_take (i := 3) (v := ?_) rfl (by kernel_rfl) (by kernel_rfl) (by kernel_rfl) (fun _ _ _ h => h) (Or.inl ⟨by kernel_rfl, ?_⟩) (by assumption) ?_
            rotate_left 1
            · (intro w hSw; obtain ⟨hk1, hk2⟩ := hSw; go_simp <;> with_reducible rfl)
            simp only [Act.put, List.getElem_toArray, List.getElem_cons_zero, List.getElem_cons_succ, List.setIfInBounds_toArray, List.set_cons_zero, List.set_cons_succ]
            refine wpAnyH_take (i := 4) (v := ?_) rfl (by kernel_rfl) (by kernel_rfl) (by kernel_rfl) (fun _ _ _ h => h) (Or.inl ⟨by kernel_rfl, ?_⟩) (by assumption) ?_
            rotate_left 1
            · (intro w hSw; obtain ⟨hk1, hk2⟩ := hSw; go_simp <;> with_reducible rfl)
            simp only [Act.put, List.getElem_toArray, List.getElem_cons_zero, List.getElem_cons_succ, List.setIfInBounds_toArray, List.set_cons_zero, List.set_cons_succ]
            refine wpAnyH_take (i := 5) (v := ?_) rfl (by kernel_rfl) (by kernel_rfl) (by kernel_rfl) (fun _ _ _ h => h) (Or.inl ⟨by kernel_rfl, ?_⟩) (by assumption) ?_
            rotate_left 1
            · (intro w hSw; obtain ⟨hk1, hk2⟩ := hSw; go_simp <;> with_reducible rfl)
            simp only [Act.put, List.getElem_toArray, List.getElem_cons_zero, List.getElem_cons_succ, List.setIfInBounds_toArray, List.set_cons_zero, List.set_cons_succ]
            refine wpAnyH_take (i := 6) (v := ?_) rfl (by kernel_rfl) (by kernel_rfl) (by kernel_rfl) (fun _ _ _ h => h) (Or.inl ⟨by kernel_rfl, ?_⟩) (by assumption) ?_
            rotate_left 1
            · (intro w hSw; obtain ⟨hk1, hk2⟩ := hSw; go_simp <;> with_reducible rfl)
            simp only [Act.put, List.getElem_toArray, List.getElem_cons_zero, List.getElem_cons_succ, List.setIfInBounds_toArray, List.set_cons_zero, List.set_cons_succ]
            refine wpAnyH_take (i := 7) (v := ?_) rfl (by kernel_rfl) (by kernel_rfl) (by kernel_rfl) (fun _ _ _ h => h) (Or.inl ⟨by kernel_rfl, ?_⟩) (by assumption) ?_
            rotate_left 1
            · (intro w hSw; obtain ⟨hk1, hk2⟩ := hSw; go_simp <;> with_reducible rfl)
            simp only [Act.put, List.getElem_toArray, List.getElem_cons_zero, List.getElem_cons_succ, List.setIfInBounds_toArray, List.set_cons_zero, List.set_cons_succ]
            refine nextH (i := 8) (by kernel_rfl) rfl (fun K hK => ?_)
            go_simp
            refine (HC1.out _).mono ?_
            rintro e_ w9 ⟨rfl, hb9⟩
            have hS' := kp (bel_tr hSd.2 hSd.2.size hb9)
            try dsimp only
            refine hK _ _ hS' ?_
            clear hK K hSd
            have hSd := hS'
            clear hS'
            refine wpAnyH_take (i := 9) (v := ?_) rfl (by kernel_rfl) (by kernel_rfl) (by kernel_rfl) (fun _ _ _ h => h) (Or.inl ⟨by kernel_rfl, ?_⟩) (by assumption) ?_
            rotate_left 1
            · (intro w hSw; obtain ⟨hk1, hk2⟩ := hSw; go_simp <;> with_reducible rfl)
            simp only [Act.put, List.getElem_toArray, List.getElem_cons_zero, List.getElem_cons_succ, List.setIfInBounds_toArray, List.set_cons_zero, List.set_cons_succ]
            refine wpAnyH_take (i := 10) (v := ?_) rfl (by kernel_rfl) (by kernel_rfl) (by kernel_rfl) (fun _ _ _ h => h) (Or.inl ⟨by kernel_rfl, ?_⟩) (by assumption) ?_
            rotate_left 1
            · (intro w hSw; obtain ⟨hk1, hk2⟩ := hSw; go_simp <;> with_reducible rfl)
            simp only [Act.put, List.getElem_toArray, List.getElem_cons_zero, List.getElem_cons_succ, List.setIfInBounds_toArray, List.set_cons_zero, List.set_cons_succ]
            refine wpAnyH_take (i := 11) (v := ?_) rfl (by kernel_rfl) (by kernel_rfl) (by kernel_rfl) (fun _ _ _ h => h) (Or.inl ⟨by kernel_rfl, ?_⟩) (by assumption) ?_
            rotate_left 1
            · (intro w hSw; obtain ⟨hk1, hk2⟩ := hSw; go_simp <;> with_reducible rfl)
            simp only [Act.put, List.getElem_toArray, List.getElem_cons_zero, List.getElem_cons_succ, List.setIfInBounds_toArray, List.set_cons_zero, List.set_cons_succ]
            refine wpAnyH_done (by kernel_rfl) ?_ _
            go_wp2
            go_meet
            exact ⟨by rw [HV.out], hSd.2⟩
          ·
            have HV : Hid (va = true) := by show _ = _; rw [Hva.out]; rfl
            have he9 : e1 ≤ 0 := by have := He1.out; simpa using this
            have hSd : (∀ b o, b < w2.heap.size → w2.drew.cell? ⟨b, o, none⟩ = w2.cell? ⟨b, o, none⟩) ∧ Below w2.heap.size w2 w2.drew := kp (Below.refl _ _).drew
            refine wp_region_held (S := fun w' => (∀ b o, b < w2.heap.size → w'.cell? ⟨b, o, none⟩ = w2.cell? ⟨b, o, none⟩) ∧ Below w2.heap.size w2 w') (by kernel_rfl) ?_
            change wpAnyH _ _ _ _ _ _ _ _ w2.drew
            refine wpAnyH_take (i := 0) (v := ?_) rfl (by kernel_rfl) (by kernel_rfl) (by kernel_rfl) (fun _ _ _ h => h) (Or.inl ⟨by kernel_rfl, ?_⟩) (by assumption) ?_
            rotate_left 1
            · (intro w hSw; obtain ⟨hk1, hk2⟩ := hSw; go_simp <;> with_reducible rfl)
            simp only [Act.put, List.getElem_toArray, List.getElem_cons_zero, List.setIfInBounds_toArray, List.set_cons_zero, List.set_cons_succ]
            refine wpAnyH_take (i := 1) (v := ?_) rfl (by kernel_rfl) (by kernel_rfl) (by kernel_rfl) (fun _ _ _ h => h) (Or.inl ⟨by kernel_rfl, ?_⟩) (by assumption) ?_
            rotate_left 1
            · (intro w hSw; obtain ⟨hk1, hk2⟩ := hSw; go_simp <;> with_reducible rfl)
            simp only [Act.put, List.getElem_toArray, List.getElem_cons_zero, List.getElem_cons_succ, List.setIfInBounds_toArray, List.set_cons_zero, List.set_cons_succ]
            refine wpAnyH_take (i := 2) (v := ?_) rfl (by kernel_rfl) (by kernel_rfl) (by kernel_rfl) (fun _ _ _ h => h) (Or.inl ⟨by kernel_rfl, ?_⟩) (by assumption) ?_
            rotate_left 1
            · (intro w hSw; obtain ⟨hk1, hk2⟩ := hSw; go_simp <;> with_reducible rfl)
            simp only [Act.put, List.getElem_toArray, List.getElem_cons_zero, List.getElem_cons_succ, List.setIfInBounds_toArray, List.set_cons_zero, List.set_cons_succ]
            refine wpAnyH_take (i := 3) (v := ?_) rfl (by kernel_rfl) (by kernel_rfl) (by kernel_rfl) (fun _ _ _ h => h) (Or.inl ⟨by kernel_rfl, ?_⟩) (by assumption) ?_
            rotate_left 1
            · (intro w hSw; obtain ⟨hk1, hk2⟩ := hSw; go_simp <;> with_reducible rfl)
            simp only [Act.put, List.getElem_toArray, List.getElem_cons_zero, List.getElem_cons_succ, List.setIfInBounds_toArray, List.set_cons_zero, List.set_cons_succ]
            refine wpAnyH_take (i := 4) (v := ?_) rfl (by kernel_rfl) (by kernel_rfl) (by kernel_rfl) (fun _ _ _ h => h) (Or.inl ⟨by kernel_rfl, ?_⟩) (by assumption) ?_
            rotate_left 1
            · (intro w hSw; obtain ⟨hk1, hk2⟩ := hSw; go_simp <;> with_reducible rfl)
            simp only [Act.put, List.getElem_toArray, List.getElem_cons_zero, List.getElem_cons_succ, List.setIfInBounds_toArray, List.set_cons_zero, List.set_cons_succ]
            refine wpAnyH_take (i := 5) (v := ?_) rfl (by kernel_rfl) (by kernel_rfl) (by kernel_rfl) (fun _ _ _ h => h) (Or.inl ⟨by kernel_rfl, ?_⟩) (by assumption) ?_
            rotate_left 1
            · (intro w hSw; obtain ⟨hk1, hk2⟩ := hSw; go_simp <;> with_reducible rfl)
            simp only [Act.put, List.getElem_toArray, List.getElem_cons_zero, List.getElem_cons_succ, List.setIfInBounds_toArray, List.set_cons_zero, List.set_cons_succ]
            refine wpAnyH_take (i := 6) (v := ?_) rfl (by kernel_rfl) (by kernel_rfl) (by kernel_rfl) (fun _ _ _ h => h) (Or.inl ⟨by kernel_rfl, ?_⟩) (by assumption) ?_
            rotate_left 1
            · (intro w hSw; obtain ⟨hk1, hk2⟩ := hSw; go_simp <;> with_reducible rfl)
            simp only [Act.put, List.getElem_toArray, List.getElem_cons_zero, List.getElem_cons_succ, List.setIfInBounds_toArray, List.set_cons_zero, List.set_cons_succ]
            refine wpAnyH_take (i := 7) (v := ?_) rfl (by kernel_rfl) (by kernel_rfl) (by kernel_rfl) (fun _ _ _ h => h) (Or.inl ⟨by kernel_rfl, ?_⟩) (by assumption) ?_
            rotate_left 1
            · (intro w hSw; obtain ⟨hk1, hk2⟩ := hSw; go_simp <;> with_reducible rfl)
            simp only [Act.put, List.getElem_toArray, List.getElem_cons_zero, List.getElem_cons_succ, List.setIfInBounds_toArray, List.set_cons_zero, List.set_cons_succ]
            refine nextH (i := 8) (by kernel_rfl) rfl (fun K hK => ?_)
            go_simp
            refine (HC1.out _).mono ?_
            rintro e_ w9 ⟨rfl, hb9⟩
            have hS' := kp (bel_tr hSd.2 hSd.2.size hb9)
            try dsimp only
            refine hK _ _ hS' ?_
            clear hK K hSd
            have hSd := hS'
            clear hS'
            refine wpAnyH_take (i := 9) (v := ?_) rfl (by kernel_rfl) (by kernel_rfl) (by kernel_rfl) (fun _ _ _ h => h) (Or.inl ⟨by kernel_rfl, ?_⟩) (by assumption) ?_
            rotate_left 1
            · (intro w hSw; obtain ⟨hk1, hk2⟩ := hSw; go_simp <;> with_reducible rfl)
            simp only [Act.put, List.getElem_toArray, List.getElem_cons_zero, List.getElem_cons_succ, List.setIfInBounds_toArray, List.set_cons_zero, List.set_cons_succ]
            refine wpAnyH_take (i := 10) (v := ?_) rfl (by kernel_rfl) (by kernel_rfl) (by kernel_rfl) (fun _ _ _ h => h) (Or.inl ⟨by kernel_rfl, ?_⟩) (by assumption) ?_
            rotate_left 1
            · (intro w hSw; obtain ⟨hk1, hk2⟩ := hSw; go_simp <;> with_reducible rfl)
            simp only [Act.put, List.getElem_toArray, List.getElem_cons_zero, List.getElem_cons_succ, List.setIfInBounds_toArray, List.set_cons_zero, List.set_cons_succ]
            refine wpAnyH_take (i := 11) (v := ?_) rfl (by kernel_rfl) (by kernel_rfl) (by kernel_rfl) (fun _ _ _ h => h) (Or.inl ⟨by kernel_rfl, ?_⟩) (by assumption) ?_
            rotate_left 1
            · (intro w hSw; obtain ⟨hk1, hk2⟩ := hSw; go_simp <;> with_reducible rfl)
            simp only [Act.put, List.getElem_toArray, List.getElem_cons_zero, List.getElem_cons_succ, List.setIfInBounds_toArray, List.set_cons_zero, List.set_cons_succ]
            refine wpAnyH_done (by kernel_rfl) ?_ _
            go_wp2
            go_meet
            exact ⟨by rw [HV.out], hSd.2⟩
        ·
          have HV : Hid (va = true) := by show _ = _; rw [Hva.out]; rfl
          have hSd : (∀ b o, b < w2.heap.size → w2.drew.cell? ⟨b, o, none⟩ = w2.cell? ⟨b, o, none⟩) ∧ Below w2.heap.size w2 w2.drew := kp (Below.refl _ _).drew
          refine wp_region_held (S := fun w' => (∀ b o, b < w2.heap.size → w'.cell? ⟨b, o, none⟩ = w2.cell? ⟨b, o, none⟩) ∧ Below w2.heap.size w2 w') (by kernel_rfl) ?_
          change wpAnyH _ _ _ _ _ _ _ _ w2.drew
          refine wpAnyH_take (i := 0) (v := ?_) rfl (by kernel_rfl) (by kernel_rfl) (by kernel_rfl) (fun _ _ _ h => h) (Or.inl ⟨by kernel_rfl, ?_⟩) (by assumption) ?_
          rotate_left 1
          · (intro w hSw; obtain ⟨hk1, hk2⟩ := hSw; go_simp <;> with_reducible rfl)
          simp only [Act.put, List.getElem_toArray, List.getElem_cons_zero, List.setIfInBounds_toArray, List.set_cons_zero, List.set_cons_succ]
          refine wpAnyH_take (i := 1) (v := ?_) rfl (by kernel_rfl) (by kernel_rfl) (by kernel_rfl) (fun _ _ _ h => h) (Or.inl ⟨by kernel_rfl, ?_⟩) (by assumption) ?_
          rotate_left 1
          · (intro w hSw; obtain ⟨hk1, hk2⟩ := hSw; go_simp <;> with_reducible rfl)
          simp only [Act.put, List.getElem_toArray, List.getElem_cons_zero, List.getElem_cons_succ, List.setIfInBounds_toArray, List.set_cons_zero, List.set_cons_succ]
          refine wpAnyH_take (i := 2) (v := undef) rfl (by kernel_rfl) (by kernel_rfl) (by kernel_rfl) (fun _ _ _ h => h) (Or.inr ⟨by kernel_rfl, rfl⟩) (by assumption) ?_
          simp only [Act.put, List.getElem_toArray, List.getElem_cons_zero, List.getElem_cons_succ, List.setIfInBounds_toArray, List.set_cons_zero, List.set_cons_succ]
          refine wpAnyH_take (i := 3) (v := undef) rfl (by kernel_rfl) (by kernel_rfl) (by kernel_rfl) (fun _ _ _ h => h) (Or.inr ⟨by kernel_rfl, rfl⟩) (by assumption) ?_
          simp only [Act.put, List.getElem_toArray, List.getElem_cons_zero, List.getElem_cons_succ, List.setIfInBounds_toArray, List.set_cons_zero, List.set_cons_succ]
          refine wpAnyH_take (i := 4) (v := undef) rfl (by kernel_rfl) (by kernel_rfl) (by kernel_rfl) (fun _ _ _ h => h) (Or.inr ⟨by kernel_rfl, rfl⟩) (by assumption) ?_
          simp only [Act.put, List.getElem_toArray, List.getElem_cons_zero, List.getElem_cons_succ, List.setIfInBounds_toArray, List.set_cons_zero, List.set_cons_succ]
          refine wpAnyH_take (i := 5) (v := undef) rfl (by kernel_rfl) (by kernel_rfl) (by kernel_rfl) (fun _ _ _ h => h) (Or.inr ⟨by kernel_rfl, rfl⟩) (by assumption) ?_
          simp only [Act.put, List.getElem_toArray, List.getElem_cons_zero, List.getElem_cons_succ, List.setIfInBounds_toArray, List.set_cons_zero, List.set_cons_succ]
          refine wpAnyH_take (i := 6) (v := undef) rfl (by kernel_rfl) (by kernel_rfl) (by kernel_rfl) (fun _ _ _ h => h) (Or.inr ⟨by kernel_rfl, rfl⟩) (by assumption) ?_
          simp only [Act.put, List.getElem_toArray, List.getElem_cons_zero, List.getElem_cons_succ, List.setIfInBounds_toArray, List.set_cons_zero, List.set_cons_succ]
          refine wpAnyH_take (i := 7) (v := undef) rfl (by kernel_rfl) (by kernel_rfl) (by kernel_rfl) (fun _ _ _ h => h) (Or.inr ⟨by kernel_rfl, rfl⟩) (by assumption) ?_
          simp only [Act.put, List.getElem_toArray, List.getElem_cons_zero, List.getElem_cons_succ, List.setIfInBounds_toArray, List.set_cons_zero, List.set_cons_succ]
          refine wpAnyH_take (i := 8) (v := undef) rfl (by kernel_rfl) (by kernel_rfl) (by kernel_rfl) (fun _ _ _ h => h) (Or.inr ⟨by kernel_rfl, rfl⟩) (by assumption) ?_
          simp only [Act.put, List.getElem_toArray, List.getElem_cons_zero, List.getElem_cons_succ, List.setIfInBounds_toArray, List.set_cons_zero, List.set_cons_succ]
          refine wpAnyH_take (i := 9) (v := undef) rfl (by kernel_rfl) (by kernel_rfl) (by kernel_rfl) (fun _ _ _ h => h) (Or.inr ⟨by kernel_rfl, rfl⟩) (by assumption) ?_
          simp only [Act.put, List.getElem_toArray, List.getElem_cons_zero, List.getElem_cons_succ, List.setIfInBounds_toArray, List.set_cons_zero, List.set_cons_succ]
          refine wpAnyH_take (i := 10) (v := ?_) rfl (by kernel_rfl) (by kernel_rfl) (by kernel_rfl) (fun _ _ _ h => h) (Or.inl ⟨by kernel_rfl, ?_⟩) (by assumption) ?_
          rotate_left 1
          · (intro w hSw; obtain ⟨hk1, hk2⟩ := hSw; go_simp <;> with_reducible rfl)
          simp only [Act.put, List.getElem_toArray, List.getElem_cons_zero, List.getElem_cons_succ, List.setIfInBounds_toArray, List.set_cons_zero, List.set_cons_succ]
          refine wpAnyH_take (i := 11) (v := ?_) rfl (by kernel_rfl) (by kernel_rfl) (by kernel_rfl) (fun _ _ _ h => h) (Or.inl ⟨by kernel_rfl, ?_⟩) (by assumption) ?_
          rotate_left 1
          · (intro w hSw; obtain ⟨hk1, hk2⟩ := hSw; go_simp <;> with_reducible rfl)
          simp only [Act.put, List.getElem_toArray, List.getElem_cons_zero, List.getElem_cons_succ, List.setIfInBounds_toArray, List.set_cons_zero, List.set_cons_succ]
          refine wpAnyH_done (by kernel_rfl) ?_ _
          go_wp2
          go_meet
          exact ⟨by rw [HV.out], hSd.2⟩
      obtain ⟨rfl, hcb⟩ := hcut
      obtain ⟨w3, rfl⟩ : ∃ w3, w3 = wc := ⟨_, rfl⟩
      have kL3 := kL2.bel hcb
      obtain ⟨d0', d1', d2', d3'⟩ : w3.cell? ⟨b, off + k * 4, none⟩ = some (.int .i64 u1) ∧ w3.cell? ⟨b, off + k * 4 + 1, none⟩ = some (.int .i64 u2) ∧ w3.cell? ⟨b, off + k * 4 + 2, none⟩ = some (.int .i64 u3) ∧ w3.cell? ⟨b, off + k * 4 + 3, none⟩ = some (.int .i64 u4) := ⟨((bcell hcb).1 _ _ hblt).trans c0', ((bcell hcb).1 _ _ hblt).trans c1', ((bcell hcb).1 _ _ hblt).trans c2', ((bcell hcb).1 _ _ hblt).trans c3'⟩
      have hbr3 := bel_tr hbr hbr.size hcb
      have hblt3 : b < w3.heap.size := by have := hcb.size; omega
      clear t0 t1 yL kL2 c0' c1' c2' c3' hcb ra2 hbr hblt HC1
      have t0 := kL3.cell 0; have t1 := kL3.cell 1; simp only [List.getElem?_cons_zero, List.getElem?_cons_succ] at t0 t1
      have yL := kL3.lt
      go_upto_region 7 with fail
      cases fb
      ·
        cases b2
        ·
          have HV : Hid (vb = false) := by show _ = _; rw [Hvb.out]; rfl
          have he9 : ¬ e2 ≤ 0 := by have := He2.out; simpa using this
          have hSd : (∀ b o, b < w3.heap.size → w3.drew.cell? ⟨b, o, none⟩ = w3.cell? ⟨b, o, none⟩) ∧ Below w3.heap.size w3 w3.drew := kp (Below.refl _ _).drew
          refine wp_region_held (S := fun w' => (∀ b o, b < w3.heap.size → w'.cell? ⟨b, o, none⟩ = w3.cell? ⟨b, o, none⟩) ∧ Below w3.heap.size w3 w') (by kernel_rfl) ?_
          change wpAnyH _ _ _ _ _ _ _ _ w3.drew
          refine wpAnyH_take (i := 0) (v := ?_) rfl (by kernel_rfl) (by kernel_rfl) (by kernel_rfl) (fun _ _ _ h => h) (Or.inl ⟨by kernel_rfl, ?_⟩) (by assumption) ?_
          rotate_left 1
          · (intro w hSw; obtain ⟨hk1, hk2⟩ := hSw; go_simp <;> with_reducible rfl)
          simp only [Act.put, List.getElem_toArray, List.getElem_cons_zero, List.setIfInBounds_toArray, List.set_cons_zero, List.set_cons_succ]
          refine wpAnyH_take (i := 1) (v := ?_) rfl (by kernel_rfl) (by kernel_rfl) (by kernel_rfl) (fun _ _ _ h => h) (Or.inl ⟨by kernel_rfl, ?_⟩) (by assumption) ?_
          rotate_left 1
          · (intro w hSw; obtain ⟨hk1, hk2⟩ := hSw; go_simp <;> with_reducible rfl)
          simp only [Act.put, List.getElem_toArray, List.getElem_cons_zero, List.getElem_cons_succ, List.setIfInBounds_toArray, List.set_cons_zero, List.set_cons_succ]
          refine wpAnyH_take (i := 2) (v := ?_) rfl (by kernel_rfl) (by kernel_rfl) (by kernel_rfl) (fun _ _ _ h => h) (Or.inl ⟨by kernel_rfl, ?_⟩) (by assumption) ?_
          rotate_left 1
          · (intro w hSw; obtain ⟨hk1, hk2⟩ := hSw; go_simp <;> with_reducible rfl)
          simp only [Act.put, List.getElem_toArray, List.getElem_cons_zero, List.getElem_cons_succ, List.setIfInBounds_toArray, List.set_cons_zero, List.set_cons_succ]
          refine wpAnyH_take (i := 3) (v := ?_) rfl (by kernel_rfl) (by kernel_rfl) (by kernel_rfl) (fun _ _ _ h => h) (Or.inl ⟨by kernel_rfl, ?_⟩) (by assumption) ?_
          rotate_left 1
          · (intro w hSw; obtain ⟨hk1, hk2⟩ := hSw; go_simp <;> with_reducible rfl)
          simp only [Act.put, List.getElem_toArray, List.getElem_cons_zero, List.getElem_cons_succ, List.setIfInBounds_toArray, List.set_cons_zero, List.set_cons_succ]
          refine wpAnyH_take (i := 4) (v := ?_) rfl (by kernel_rfl) (by kernel_rfl) (by kernel_rfl) (fun _ _ _ h => h) (Or.inl ⟨by kernel_rfl, ?_⟩) (by assumption) ?_
          rotate_left 1
          · (intro w hSw; obtain ⟨hk1, hk2⟩ := hSw; go_simp <;> with_reducible rfl)
          simp only [Act.put, List.getElem_toArray, List.getElem_cons_zero, List.getElem_cons_succ, List.setIfInBounds_toArray, List.set_cons_zero, List.set_cons_succ]
          refine wpAnyH_take (i := 5) (v := ?_) rfl (by kernel_rfl) (by kernel_rfl) (by kernel_rfl) (fun _ _ _ h => h) (Or.inl ⟨by kernel_rfl, ?_⟩) (by assumption) ?_
          rotate_left 1
          · (intro w hSw; obtain ⟨hk1, hk2⟩ := hSw; go_simp <;> with_reducible rfl)
          simp only [Act.put, List.getElem_toArray, List.getElem_cons_zero, List.getElem_cons_succ, List.setIfInBounds_toArray, List.set_cons_zero, List.set_cons_succ]
          refine wpAnyH_take (i := 6) (v := ?_) rfl (by kernel_rfl) (by kernel_rfl) (by kernel_rfl) (fun _ _ _ h => h) (Or.inl ⟨by kernel_rfl, ?_⟩) (by assumption) ?_
          rotate_left 1
          · (intro w hSw; obtain ⟨hk1, hk2⟩ := hSw; go_simp <;> with_reducible rfl)
          simp only [Act.put, List.getElem_toArray, List.getElem_cons_zero, List.getElem_cons_succ, List.setIfInBounds_toArray, List.set_cons_zero, List.set_cons_succ]
          refine wpAnyH_take (i := 7) (v := ?_) rfl (by kernel_rfl) (by kernel_rfl) (by kernel_rfl) (fun _ _ _ h => h) (Or.inl ⟨by kernel_rfl, ?_⟩) (by assumption) ?_
          rotate_left 1
          · (intro w hSw; obtain ⟨hk1, hk2⟩ := hSw; go_simp <;> with_reducible rfl)
          simp only [Act.put, List.getElem_toArray, List.getElem_cons_zero, List.getElem_cons_succ, List.setIfInBounds_toArray, List.set_cons_zero, List.set_cons_succ]
          refine nextH (i := 8) (by kernel_rfl) rfl (fun K hK => ?_)
          go_simp
          refine (HC2.out _).mono ?_
          rintro e_ w9 ⟨rfl, hb9⟩
          have hS' := kp (bel_tr hSd.2 hSd.2.size hb9)
          try dsimp only
          refine hK _ _ hS' ?_
          clear hK K hSd
          have hSd := hS'
          clear hS'
          refine wpAnyH_take (i := 9) (v := ?_) rfl (by kernel_rfl) (by kernel_rfl) (by kernel_rfl) (fun _ _ _ h => h) (Or.inl ⟨by kernel_rfl, ?_⟩) (by assumption) ?_
          rotate_left 1
          · (intro w hSw; obtain ⟨hk1, hk2⟩ := hSw; go_simp <;> with_reducible rfl)
          simp only [Act.put, List.getElem_toArray, List.getElem_cons_zero, List.getElem_cons_succ, List.setIfInBounds_toArray, List.set_cons_zero, List.set_cons_succ]
          refine wpAnyH_take (i := 10) (v := ?_) rfl (by kernel_rfl) (by kernel_rfl) (by kernel_rfl) (fun _ _ _ h => h) (Or.inl ⟨by kernel_rfl, ?_⟩) (by assumption) ?_
          rotate_left 1
          · (intro w hSw; obtain ⟨hk1, hk2⟩ := hSw; go_simp <;> with_reducible rfl)
          simp only [Act.put, List.getElem_toArray, List.getElem_cons_zero, List.getElem_cons_succ, List.setIfInBounds_toArray, List.set_cons_zero, List.set_cons_succ]
          refine wpAnyH_take (i := 11) (v := ?_) rfl (by kernel_rfl) (by kernel_rfl) (by kernel_rfl) (fun _ _ _ h => h) (Or.inl ⟨by kernel_rfl, ?_⟩) (by assumption) ?_
          rotate_left 1
          · (intro w hSw; obtain ⟨hk1, hk2⟩ := hSw; go_simp <;> with_reducible rfl)
          simp only [Act.put, List.getElem_toArray, List.getElem_cons_zero, List.getElem_cons_succ, List.setIfInBounds_toArray, List.set_cons_zero, List.set_cons_succ]
          refine wpAnyH_done (by kernel_rfl) ?_ _
          have hbr4 := bel_tr hbr3 hbr3.size hSd.2
          go_wp2
          go_roundw
          case rel => exact ⟨k + 1, by omega, by go_num, by rw [HVA.out], by rw [HVB.out, HV.out], hbr4⟩
          case measure => simp [intOf]; omega
        ·
          have HV : Hid (vb = true) := by show _ = _; rw [Hvb.out]; rfl
          have he9 : e2 ≤ 0 := by have := He2.out; simpa using this
          have hSd : (∀ b o, b < w3.heap.size → w3.drew.cell? ⟨b, o, none⟩ = w3.cell? ⟨b, o, none⟩) ∧ Below w3.heap.size w3 w3.drew := kp (Below.refl _ _).drew
          refine wp_region_held (S := fun w' => (∀ b o, b < w3.heap.size → w'.cell? ⟨b, o, none⟩ = w3.cell? ⟨b, o, none⟩) ∧ Below w3.heap.size w3 w') (by kernel_rfl) ?_
          change wpAnyH _ _ _ _ _ _ _ _ w3.drew
          refine wpAnyH_take (i := 0) (v := ?_) rfl (by kernel_rfl) (by kernel_rfl) (by kernel_rfl) (fun _ _ _ h => h) (Or.inl ⟨by kernel_rfl, ?_⟩) (by assumption) ?_
          rotate_left 1
          · (intro w hSw; obtain ⟨hk1, hk2⟩ := hSw; go_simp <;> with_reducible rfl)
          simp only [Act.put, List.getElem_toArray, List.getElem_cons_zero, List.setIfInBounds_toArray, List.set_cons_zero, List.set_cons_succ]
          refine wpAnyH_take (i := 1) (v := ?_) rfl (by kernel_rfl) (by kernel_rfl) (by kernel_rfl) (fun _ _ _ h => h) (Or.inl ⟨by kernel_rfl, ?_⟩) (by assumption) ?_
          rotate_left 1
          · (intro w hSw; obtain ⟨hk1, hk2⟩ := hSw; go_simp <;> with_reducible rfl)
          simp only [Act.put, List.getElem_toArray, List.getElem_cons_zero, List.getElem_cons_succ, List.setIfInBounds_toArray, List.set_cons_zero, List.set_cons_succ]
          refine wpAnyH_take (i := 2) (v := ?_) rfl (by kernel_rfl) (by kernel_rfl) (by kernel_rfl) (fun _ _ _ h => h) (Or.inl ⟨by kernel_rfl, ?_⟩) (by assumption) ?_
          rotate_left 1
          · (intro w hSw; obtain ⟨hk1, hk2⟩ := hSw; go_simp <;> with_reducible rfl)
          simp only [Act.put, List.getElem_toArray, List.getElem_cons_zero, List.getElem_cons_succ, List.setIfInBounds_toArray, List.set_cons_zero, List.set_cons_succ]
          refine wpAnyH_take (i := 3) (v := ?_) rfl (by kernel_rfl) (by kernel_rfl) (by kernel_rfl) (fun _ _ _ h => h) (Or.inl ⟨by kernel_rfl, ?_⟩) (by assumption) ?_
          rotate_left 1
          · (intro w hSw; obtain ⟨hk1, hk2⟩ := hSw; go_simp <;> with_reducible rfl)
          simp only [Act.put, List.getElem_toArray, List.getElem_cons_zero, List.getElem_cons_succ, List.setIfInBounds_toArray, List.set_cons_zero, List.set_cons_succ]
          refine wpAnyH_take (i := 4) (v := ?_) rfl (by kernel_rfl) (by kernel_rfl) (by kernel_rfl) (fun _ _ _ h => h) (Or.inl ⟨by kernel_rfl, ?_⟩) (by assumption) ?_
          rotate_left 1
          · (intro w hSw; obtain ⟨hk1, hk2⟩ := hSw; go_simp <;> with_reducible rfl)
          simp only [Act.put, List.getElem_toArray, List.getElem_cons_zero, List.getElem_cons_succ, List.setIfInBounds_toArray, List.set_cons_zero, List.set_cons_succ]
          refine wpAnyH_take (i := 5) (v := ?_) rfl (by kernel_rfl) (by kernel_rfl) (by kernel_rfl) (fun _ _ _ h => h) (Or.inl ⟨by kernel_rfl, ?_⟩) (by assumption) ?_
          rotate_left 1
          · (intro w hSw; obtain ⟨hk1, hk2⟩ := hSw; go_simp <;> with_reducible rfl)
          simp only [Act.put, List.getElem_toArray, List.getElem_cons_zero, List.getElem_cons_succ, List.setIfInBounds_toArray, List.set_cons_zero, List.set_cons_succ]
          refine wpAnyH_take (i := 6) (v := ?_) rfl (by kernel_rfl) (by kernel_rfl) (by kernel_rfl) (fun _ _ _ h => h) (Or.inl ⟨by kernel_rfl, ?_⟩) (by assumption) ?_
          rotate_left 1
          · (intro w hSw; obtain ⟨hk1, hk2⟩ := hSw; go_simp <;> with_reducible rfl)
          simp only [Act.put, List.getElem_toArray, List.getElem_cons_zero, List.getElem_cons_succ, List.setIfInBounds_toArray, List.set_cons_zero, List.set_cons_succ]
          refine wpAnyH_take (i := 7) (v := ?_) rfl (by kernel_rfl) (by kernel_rfl) (by kernel_rfl) (fun _ _ _ h => h) (Or.inl ⟨by kernel_rfl, ?_⟩) (by assumption) ?_
          rotate_left 1
          · (intro w hSw; obtain ⟨hk1, hk2⟩ := hSw; go_simp <;> with_reducible rfl)
          simp only [Act.put, List.getElem_toArray, List.getElem_cons_zero, List.getElem_cons_succ, List.setIfInBounds_toArray, List.set_cons_zero, List.set_cons_succ]
          refine nextH (i := 8) (by kernel_rfl) rfl (fun K hK => ?_)
          go_simp
          refine (HC2.out _).mono ?_
          rintro e_ w9 ⟨rfl, hb9⟩
          have hS' := kp (bel_tr hSd.2 hSd.2.size hb9)
          try dsimp only
          refine hK _ _ hS' ?_
          clear hK K hSd
          have hSd := hS'
          clear hS'
          refine wpAnyH_take (i := 9) (v := ?_) rfl (by kernel_rfl) (by kernel_rfl) (by kernel_rfl) (fun _ _ _ h => h) (Or.inl ⟨by kernel_rfl, ?_⟩) (by assumption) ?_
          rotate_left 1
          · (intro w hSw; obtain ⟨hk1, hk2⟩ := hSw; go_simp <;> with_reducible rfl)
          simp only [Act.put, List.getElem_toArray, List.getElem_cons_zero, List.getElem_cons_succ, List.setIfInBounds_toArray, List.set_cons_zero, List.set_cons_succ]
          refine wpAnyH_take (i := 10) (v := ?_) rfl (by kernel_rfl) (by kernel_rfl) (by kernel_rfl) (fun _ _ _ h => h) (Or.inl ⟨by kernel_rfl, ?_⟩) (by assumption) ?_
          rotate_left 1
          · (intro w hSw; obtain ⟨hk1, hk2⟩ := hSw; go_simp <;> with_reducible rfl)
          simp only [Act.put, List.getElem_toArray, List.getElem_cons_zero, List.getElem_cons_succ, List.setIfInBounds_toArray, List.set_cons_zero, List.set_cons_succ]
          refine wpAnyH_take (i := 11) (v := ?_) rfl (by kernel_rfl) (by kernel_rfl) (by kernel_rfl) (fun _ _ _ h => h) (Or.inl ⟨by kernel_rfl, ?_⟩) (by assumption) ?_
          rotate_left 1
          · (intro w hSw; obtain ⟨hk1, hk2⟩ := hSw; go_simp <;> with_reducible rfl)
          simp only [Act.put, List.getElem_toArray, List.getElem_cons_zero, List.getElem_cons_succ, List.setIfInBounds_toArray, List.set_cons_zero, List.set_cons_succ]
          refine wpAnyH_done (by kernel_rfl) ?_ _
          have hbr4 := bel_tr hbr3 hbr3.size hSd.2
          go_wp2
          go_roundw
          case rel => exact ⟨k + 1, by omega, by go_num, by rw [HVA.out], by rw [HVB.out, HV.out], hbr4⟩
          case measure => simp [intOf]; omega
      ·
        have HV : Hid (vb = true) := by show _ = _; rw [Hvb.out]; rfl
        have hSd : (∀ b o, b < w3.heap.size → w3.drew.cell? ⟨b, o, none⟩ = w3.cell? ⟨b, o, none⟩) ∧ Below w3.heap.size w3 w3.drew := kp (Below.refl _ _).drew
        refine wp_region_held (S := fun w' => (∀ b o, b < w3.heap.size → w'.cell? ⟨b, o, none⟩ = w3.cell? ⟨b, o, none⟩) ∧ Below w3.heap.size w3 w') (by kernel_rfl) ?_
        change wpAnyH _ _ _ _ _ _ _ _ w3.drew
        refine wpAnyH_take (i := 0) (v := ?_) rfl (by kernel_rfl) (by kernel_rfl) (by kernel_rfl) (fun _ _ _ h => h) (Or.inl ⟨by kernel_rfl, ?_⟩) (by assumption) ?_
        rotate_left 1
        · (intro w hSw; obtain ⟨hk1, hk2⟩ := hSw; go_simp <;> with_reducible rfl)
        simp only [Act.put, List.getElem_toArray, List.getElem_cons_zero, List.setIfInBounds_toArray, List.set_cons_zero, List.set_cons_succ]
        refine wpAnyH_take (i := 1) (v := ?_) rfl (by kernel_rfl) (by kernel_rfl) (by kernel_rfl) (fun _ _ _ h => h) (Or.inl ⟨by kernel_rfl, ?_⟩) (by assumption) ?_
        rotate_left 1
        · (intro w hSw; obtain ⟨hk1, hk2⟩ := hSw; go_simp <;> with_reducible rfl)
        simp only [Act.put, List.getElem_toArray, List.getElem_cons_zero, List.getElem_cons_succ, List.setIfInBounds_toArray, List.set_cons_zero, List.set_cons_succ]
        refine wpAnyH_take (i := 2) (v := undef) rfl (by kernel_rfl) (by kernel_rfl) (by kernel_rfl) (fun _ _ _ h => h) (Or.inr ⟨by kernel_rfl, rfl⟩) (by assumption) ?_
        simp only [Act.put, List.getElem_toArray, List.getElem_cons_zero, List.getElem_cons_succ, List.setIfInBounds_toArray, List.set_cons_zero, List.set_cons_succ]
        refine wpAnyH_take (i := 3) (v := undef) rfl (by kernel_rfl) (by kernel_rfl) (by kernel_rfl) (fun _ _ _ h => h) (Or.inr ⟨by kernel_rfl, rfl⟩) (by assumption) ?_
        simp only [Act.put, List.getElem_toArray, List.getElem_cons_zero, List.getElem_cons_succ, List.setIfInBounds_toArray, List.set_cons_zero, List.set_cons_succ]
        refine wpAnyH_take (i := 4) (v := undef) rfl (by kernel_rfl) (by kernel_rfl) (by kernel_rfl) (fun _ _ _ h => h) (Or.inr ⟨by kernel_rfl, rfl⟩) (by assumption) ?_
        simp only [Act.put, List.getElem_toArray, List.getElem_cons_zero, List.getElem_cons_succ, List.setIfInBounds_toArray, List.set_cons_zero, List.set_cons_succ]
        refine wpAnyH_take (i := 5) (v := undef) rfl (by kernel_rfl) (by kernel_rfl) (by kernel_rfl) (fun _ _ _ h => h) (Or.inr ⟨by kernel_rfl, rfl⟩) (by assumption) ?_
        simp only [Act.put, List.getElem_toArray, List.getElem_cons_zero, List.getElem_cons_succ, List.setIfInBounds_toArray, List.set_cons_zero, List.set_cons_succ]
        refine wpAnyH_take (i := 6) (v := undef) rfl (by kernel_rfl) (by kernel_rfl) (by kernel_rfl) (fun _ _ _ h => h) (Or.inr ⟨by kernel_rfl, rfl⟩) (by assumption) ?_
        simp only [Act.put, List.getElem_toArray, List.getElem_cons_zero, List.getElem_cons_succ, List.setIfInBounds_toArray, List.set_cons_zero, List.set_cons_succ]
        refine wpAnyH_take (i := 7) (v := undef) rfl (by kernel_rfl) (by kernel_rfl) (by kernel_rfl) (fun _ _ _ h => h) (Or.inr ⟨by kernel_rfl, rfl⟩) (by assumption) ?_
        simp only [Act.put, List.getElem_toArray, List.getElem_cons_zero, List.getElem_cons_succ, List.setIfInBounds_toArray, List.set_cons_zero, List.set_cons_succ]
        refine wpAnyH_take (i := 8) (v := undef) rfl (by kernel_rfl) (by kernel_rfl) (by kernel_rfl) (fun _ _ _ h => h) (Or.inr ⟨by kernel_rfl, rfl⟩) (by assumption) ?_
        simp only [Act.put, List.getElem_toArray, List.getElem_cons_zero, List.getElem_cons_succ, List.setIfInBounds_toArray, List.set_cons_zero, List.set_cons_succ]
        refine wpAnyH_take (i := 9) (v := undef) rfl (by kernel_rfl) (by kernel_rfl) (by kernel_rfl) (fun _ _ _ h => h) (Or.inr ⟨by kernel_rfl, rfl⟩) (by assumption) ?_
        simp only [Act.put, List.getElem_toArray, List.getElem_cons_zero, List.getElem_cons_succ, List.setIfInBounds_toArray, List.set_cons_zero, List.set_cons_succ]
        refine wpAnyH_take (i := 10) (v := ?_) rfl (by kernel_rfl) (by kernel_rfl) (by kernel_rfl) (fun _ _ _ h => h) (Or.inl ⟨by kernel_rfl, ?_⟩) (by assumption) ?_
        rotate_left 1
        · (intro w hSw; obtain ⟨hk1, hk2⟩ := hSw; go_simp <;> with_reducible rfl)
        simp only [Act.put, List.getElem_toArray, List.getElem_cons_zero, List.getElem_cons_succ, List.setIfInBounds_toArray, List.set_cons_zero, List.set_cons_succ]
        refine wpAnyH_take (i := 11) (v := ?_) rfl (by kernel_rfl) (by kernel_rfl) (by kernel_rfl) (fun _ _ _ h => h) (Or.inl ⟨by kernel_rfl, ?_⟩) (by assumption) ?_
        rotate_left 1
        · (intro w hSw; obtain ⟨hk1, hk2⟩ := hSw; go_simp <;> with_reducible rfl)
        simp only [Act.put, List.getElem_toArray, List.getElem_cons_zero, List.getElem_cons_succ, List.setIfInBounds_toArray, List.set_cons_zero, List.set_cons_succ]
        refine wpAnyH_done (by kernel_rfl) ?_ _
        have hbr4 := bel_tr hbr3 hbr3.size hSd.2
        go_wp2
        go_roundw
        case rel => exact ⟨k + 1, by omega, by go_num, by rw [HVA.out], by rw [HVB.out, HV.out], hbr4⟩
        case measure => simp [intOf]; omega
    · obtain rfl : k = l.length := by omega
      rw [List.take_length] at *
      have hBz : Below q w w2 := hB1.trans (hbr.mono (by omega))
      generalize hva : l.any (hitW f n d gy hi) = va
      generalize hvb : l.any (hitW f n d gy lo) = vb
      have HVA := hide hva
      have HVB := hide hvb
      clear hva hvb
      cases va <;> cases vb
      all_goals (
        go_wp2
        go_ret
        exact ⟨ret_int (by rw [HVA.out, HVB.out]; rfl), by first | exact hBz | (rw [hq]; exact hBz)⟩)
end Go.Proofs.Ytkcjiejdjdcbeaa

