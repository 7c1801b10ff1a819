/- Contracts: the root of a fraction; legs. -/
import Derived.Test.YtkcjiejdjdcbeaaRy8
set_option linter.unusedSimpArgs false
set_option linter.unusedVariables false
set_option linter.unusedSimpArgs false
set_option linter.unusedVariables false
namespace Go.Proofs.Ytkcjiejdjdcbeaa
open Go.RowKit
set_option maxRecDepth 100000



/-- The root of a fraction, rounded down and up. -/
def rootQ (n d : Int) : G := if (rootN (n / d).toNat : Int) * rootN (n / d).toNat * d = n then ((rootN (n / d).toNat : Int), (rootN (n / d).toNat : Int)) else ((rootN (n / d).toNat : Int), (rootN (n / d).toNat : Int) + 1)
theorem root_bd {n d : Int} (h0 : 0 ≤ n) (h1 : n ≤ 4000000000000000000) (d0 : 1 ≤ d) : 0 ≤ n / d ∧ n / d ≤ n ∧ (rootN (n / d).toNat : Int) ≤ 2147483648 ∧ 0 ≤ (rootN (n / d).toNat : Int) * rootN (n / d).toNat ∧ (rootN (n / d).toNat : Int) * rootN (n / d).toNat ≤ n / d ∧ 0 ≤ (rootN (n / d).toNat : Int) * rootN (n / d).toNat * d ∧ (rootN (n / d).toNat : Int) * rootN (n / d).toNat * d ≤ n := by
  have a := Int.ediv_nonneg h0 (show 0 ≤ d by omega)
  have b := Int.ediv_le_self d h0
  have c := toNat_root a
  have hr : (rootN (n / d).toNat : Int) ≤ 2147483648 := by
    rcases Int.lt_or_le 2147483648 (rootN (n / d).toNat : Int) with h | h
    · have := Int.mul_le_mul (show (2147483648 : Int) ≤ (rootN (n / d).toNat : Int) by omega) (show (2147483648 : Int) ≤ (rootN (n / d).toNat : Int) by omega) (by decide) (by omega)
      omega
    · exact h
  have e := Int.mul_nonneg (show 0 ≤ (rootN (n / d).toNat : Int) by omega) (show 0 ≤ (rootN (n / d).toNat : Int) by omega)
  have g := Int.mul_nonneg e (show 0 ≤ d by omega)
  have h := Int.mul_le_mul_of_nonneg_right c.1 (show 0 ≤ d by omega)
  have k := Int.ediv_mul_le n (show d ≠ 0 by omega)
  exact ⟨a, b, hr, e, c.1, g, Int.le_trans h k⟩
theorem rootOf_c (n d : Int) (w : World) (h0 : 0 ≤ n) (h1 : n ≤ 4000000000000000000) (d0 : 1 ≤ d) (d1 : d ≤ 4000000000000000000) :
    Calls Try.prog 157 #[.int .i64 n, .int .i64 d] w fun r w' => r = .returned (.agg #[.int .i64 (rootQ n d).1, .int .i64 (rootQ n d).2]) ∧ Below w.heap.size w w' := by
  obtain ⟨b1, b2, b3, b4, b5, b6, b7⟩ := root_bd h0 h1 d0
  have HB := hide (fun W => rootBelow_c (n / d) W b1 (by omega))
  have q1 : Int.tdiv n d = n / d := Int.tdiv_eq_ediv_of_nonneg h0
  have HR : Hid (rootQ n d = if (rootN (n / d).toNat : Int) * rootN (n / d).toNat * d = n then ((rootN (n / d).toNat : Int), (rootN (n / d).toNat : Int)) else ((rootN (n / d).toNat : Int), (rootN (n / d).toNat : Int) + 1)) := rfl
  generalize rootN (n / d).toNat = r at HB HR b3 b4 b5 b6 b7
  generalize n / d = q at HB b1 b2 b5 q1
  have e1 : (d == 0) = false := by simp; omega
  have e2 : ¬ d = 0 := by omega
  have e3 : (d == -1) = false := by simp; omega
  have e4 : ¬ d = -1 := by omega
  obtain ⟨p, hp⟩ : ∃ p, w.heap.size = p := ⟨_, rfl⟩
  obtain ⟨W, hW⟩ : ∃ W, w.alloc (.cells #[.int .i64 0, .int .i64 0] 55) = W := ⟨_, rfl⟩
  have hB0 : Below p w W := by rw [← hW, ← hp]; exact alloc_bel _ _
  have hX : Blk W p 55 [.int .i64 0, .int .i64 0] := by rw [← hW, ← hp]; exact Blk.new w _ [_, _]
  have hsz : p < W.heap.size := hX.lt
  have HW := hide hW
  clear hW
  by_cases he : (r : Int) * r * d = n
  · have e5 : ((r : Int) * r * d == n) = true := by simpa using he
    have HR2 : Hid (rootQ n d = ((r : Int), (r : Int))) := by show _ = _; rw [HR.out, if_pos he]
    clear HR he
    generalize rootQ n d = z at HR2 ⊢
    have HR3 := HR2.out
    subst HR3
    go_enter Try.func157, Try.ntmps157
    go_upto_region 1 with fail
    rw [HW.out]
    go_wp2_with (go_at_call 96; refine (HB.out _).mono ?_; rintro e_ w1 ⟨rfl, hb1⟩; have hX1 := hX.bel hb1; obtain ⟨x0, x1, f0, f1⟩ := blk_two hX1)
    obtain ⟨WE, hWE⟩ : ∃ WE, (w1.setCell ⟨p, 0, none⟩ (.int .i64 (r : Int))).setCell ⟨p, 1, none⟩ (.int .i64 (r : Int)) = WE := ⟨_, rfl⟩
    rw [hWE]
    have hE : Blk WE p 55 [.int .i64 (r : Int), .int .i64 (r : Int)] := by rw [← hWE]; exact (hX1.set_ 0 _).set_ 1 _
    have hBE : Below p w WE := by rw [← hWE]; exact ((bel_tr hB0 (by omega) hb1).setCell (Nat.le_refl _) _).setCell (Nat.le_refl _) _
    clear hWE x0 x1 f0 f1 hX1
    have g0 := hE.cell 0; have g1 := hE.cell 1; simp only [List.getElem?_cons_zero, List.getElem?_cons_succ] at g0 g1
    exact bodyPost_ret (v := .agg #[.int .i64 (r : Int), .int .i64 (r : Int)]) (by simp [results, Try.results157, go_sem, g0, g1]; try rfl) rfl ⟨rfl, by first | exact hBE | (rw [hp]; exact hBE)⟩
  · have e5 : ((r : Int) * r * d == n) = false := by simpa using he
    have HR2 : Hid (rootQ n d = ((r : Int), (r : Int) + 1)) := by show _ = _; rw [HR.out, if_neg he]
    clear HR he
    generalize rootQ n d = z at HR2 ⊢
    have HR3 := HR2.out
    subst HR3
    go_enter Try.func157, Try.ntmps157
    go_upto_region 1 with fail
    rw [HW.out]
    go_wp2_with (go_at_call 96; refine (HB.out _).mono ?_; rintro e_ w1 ⟨rfl, hb1⟩; have hX1 := hX.bel hb1; obtain ⟨x0, x1, f0, f1⟩ := blk_two hX1)
    obtain ⟨WE, hWE⟩ : ∃ WE, (w1.setCell ⟨p, 0, none⟩ (.int .i64 (r : Int))).setCell ⟨p, 1, none⟩ (.int .i64 ((r : Int) + 1)) = WE := ⟨_, rfl⟩
    rw [hWE]
    have hE : Blk WE p 55 [.int .i64 (r : Int), .int .i64 ((r : Int) + 1)] := by rw [← hWE]; exact (hX1.set_ 0 _).set_ 1 _
    have hBE : Below p w WE := by rw [← hWE]; exact ((bel_tr hB0 (by omega) hb1).setCell (Nat.le_refl _) _).setCell (Nat.le_refl _) _
    clear hWE x0 x1 f0 f1 hX1
    have g0 := hE.cell 0; have g1 := hE.cell 1; simp only [List.getElem?_cons_zero, List.getElem?_cons_succ] at g0 g1
    exact bodyPost_ret (v := .agg #[.int .i64 (r : Int), .int .i64 ((r : Int) + 1)]) (by simp [results, Try.results157, go_sem, g0, g1]; try rfl) rfl ⟨rfl, by first | exact hBE | (rw [hp]; exact hBE)⟩
/-- The leg of a slab. -/
def legQ (f n d t sq : Int) : G := rootQ (100 * t * (100 * t) * (n * (idxQ sq f).2)) (d * (idxQ sq f).1 - n * (idxQ sq f).2)
theorem blk_five {w : World} {p : Nat} {t : TypeId} {a b c d e : Value} (h : Blk w p t [a, b, c, d, e]) : w.cell? ⟨p, 0, none⟩ = some a ∧ w.cell? ⟨p, 1, none⟩ = some b ∧ w.cell? ⟨p, 2, none⟩ = some c ∧ w.cell? ⟨p, 3, none⟩ = some d ∧ w.cell? ⟨p, 4, none⟩ = some e := ⟨h.cell 0, h.cell 1, h.cell 2, h.cell 3, h.cell 4⟩
/-- What a leg asks, and keeps. -/
theorem leg_bd {f n d t sq : Int} (h1 : 1 ≤ f) (h2 : f ≤ 3000) (h3 : 0 ≤ sq) (h4 : sq ≤ 9000000) (n0 : 0 ≤ n) (n1 : n < d) (d1 : d ≤ 100) (t0 : 0 ≤ t) (t1 : t ≤ 500) (hh : hitB f n d (t, sq) = false) :
    0 ≤ n * (idxQ sq f).2 ∧ n * (idxQ sq f).2 ≤ 900000000 ∧ 0 ≤ 100 * t * (100 * t) ∧ 100 * t * (100 * t) ≤ 2500000000 ∧ 0 ≤ 100 * t * (100 * t) * (n * (idxQ sq f).2) ∧ 100 * t * (100 * t) * (n * (idxQ sq f).2) ≤ 2250000000000000000 ∧ 1 ≤ d * (idxQ sq f).1 - n * (idxQ sq f).2 ∧ d * (idxQ sq f).1 ≤ 900000000 ∧ 0 ≤ d * (idxQ sq f).1 := by
  obtain ⟨b1, b2, b3, b4⟩ := idxQ_bd h1 h2 h3 h4
  have hh2 : n * (idxQ sq f).2 < (idxQ sq f).1 * d := by
    have := hh
    simp only [hitB, decide_eq_false_iff_not, Int.not_le] at this
    exact this
  have m1 := mul_bd n0 (show n ≤ 100 by omega) (show 0 ≤ (idxQ sq f).2 by omega) b2
  have m2 := mul_bd (show 0 ≤ 100 * t by omega) (show 100 * t ≤ 50000 by omega) (show 0 ≤ 100 * t by omega) (show 100 * t ≤ 50000 by omega)
  have m3 := mul_bd m2.1 m2.2 m1.1 m1.2
  rw [Int.mul_comm (idxQ sq f).1 d] at hh2
  have m4 : d * (idxQ sq f).1 ≤ 900000000 := by
    rcases Int.lt_or_le (idxQ sq f).1 0 with h | h
    · have := Int.mul_le_mul_of_nonneg_left (show (idxQ sq f).1 ≤ 0 by omega) (show 0 ≤ d by omega)
      omega
    · have := mul_bd (show 0 ≤ d by omega) d1 h b4
      omega
  omega
set_option maxHeartbeats 4000000 in
theorem leg_c (H f n d t sq : Int) (A : Option Addr) (L c : Nat) (w : World) (h1 : 1 ≤ f) (h2 : f ≤ 3000) (h3 : 0 ≤ sq) (h4 : sq ≤ 9000000) (n0 : 0 ≤ n) (n1 : n < d) (d1 : d ≤ 100) (t0 : 0 ≤ t) (t1 : t ≤ 500) (hh : hitB f n d (t, sq) = false) :
    Calls Try.prog 156 #[.agg #[.int .i64 H, .slice A L c, .int .i64 f, .int .i64 n, .int .i64 d], .agg #[.int .i64 t, .int .i64 sq]] w fun r w' => r = .returned (.agg #[.int .i64 (legQ f n d t sq).1, .int .i64 (legQ f n d t sq).2]) ∧ Below w.heap.size w w' := by
  obtain ⟨m1, m2, m3, m4, m5, m6, m7, m8, m9⟩ := leg_bd h1 h2 h3 h4 n0 n1 d1 t0 t1 hh
  have HI := hide (fun W => indexOf_c sq f W h1 h2 h3 h4)
  have HRO := hide (fun W => rootOf_c (100 * t * (100 * t) * (n * (idxQ sq f).2)) (d * (idxQ sq f).1 - n * (idxQ sq f).2) W m5 (by omega) m7 (by omega))
  rw [show rootQ (100 * t * (100 * t) * (n * (idxQ sq f).2)) (d * (idxQ sq f).1 - n * (idxQ sq f).2) = legQ f n d t sq from rfl] at HRO
  generalize legQ f n d t sq = z at HRO ⊢
  obtain ⟨a, b⟩ := z
  generalize idxQ sq f = y at HI HRO m1 m2 m5 m6 m7 m8 m9
  obtain ⟨ia, ib⟩ := y
  dsimp only at *
  clear hh
  obtain ⟨q, hq⟩ : ∃ q, w.heap.size = q := ⟨_, rfl⟩
  obtain ⟨p, hp⟩ : ∃ p, q + 2 = p := ⟨_, rfl⟩
  obtain ⟨W, hW⟩ : ∃ W, ((w.alloc (.cells #[.int .i64 H, .slice A L c, .int .i64 f, .int .i64 n, .int .i64 d] 159)).alloc (.cells #[.int .i64 t, .int .i64 sq] 79)).alloc (.cells #[.int .i64 0, .int .i64 0] 55) = W := ⟨_, rfl⟩
  have hB0 : Below q w W := by rw [← hW, ← hq]; exact bel_alloc (bel_alloc (alloc_bel _ _) (by simp) _) (by simp; omega) _
  have hS : Blk W q 159 [.int .i64 H, .slice A L c, .int .i64 f, .int .i64 n, .int .i64 d] := by rw [← hW, ← hq]; exact ((Blk.new w _ [_, _, _, _, _]).bel (alloc_bel _ _)).bel (alloc_bel _ _)
  have hG : Blk W (q + 1) 79 [.int .i64 t, .int .i64 sq] := by
    rw [← hW, ← hq]
    have := (Blk.new (w.alloc (.cells #[.int .i64 H, .slice A L c, .int .i64 f, .int .i64 n, .int .i64 d] 159)) 79 [.int .i64 t, .int .i64 sq]).bel (alloc_bel _ (.cells #[.int .i64 0, .int .i64 0] 55))
    simpa using this
  have hX : Blk W p 55 [.int .i64 0, .int .i64 0] := by
    rw [← hW, ← hp, ← hq]
    have := Blk.new ((w.alloc (.cells #[.int .i64 H, .slice A L c, .int .i64 f, .int .i64 n, .int .i64 d] 159)).alloc (.cells #[.int .i64 t, .int .i64 sq] 79)) 55 [.int .i64 0, .int .i64 0]
    simpa using this
  have hsz : p < W.heap.size := hX.lt
  have HW := hide hW
  clear hW
  have s0 := hS.cell 0; have s1 := hS.cell 1; have s2 := hS.cell 2; have s3 := hS.cell 3; have s4 := hS.cell 4; simp only [List.getElem?_cons_zero, List.getElem?_cons_succ] at s0 s1 s2 s3 s4
  have g0 := hG.cell 0; have g1 := hG.cell 1; simp only [List.getElem?_cons_zero, List.getElem?_cons_succ] at g0 g1
  go_enter Try.func156, Try.ntmps156
  go_upto_region 1 with fail
  rw [HW.out]
  go_upto_region 2 with (go_at_call 99; refine (HI.out _).mono ?_; rintro e_ w1 ⟨rfl, hb1⟩)
  obtain ⟨v, hv⟩ : ∃ v, w1.heap.size = v := ⟨_, rfl⟩
  obtain ⟨W2, hW2⟩ : ∃ W2, w1.alloc (.cells #[.int .i64 ia, .int .i64 ib] 26) = W2 := ⟨_, rfl⟩
  have hb2 : Below W.heap.size W W2 := by rw [← hW2]; exact bel_alloc hb1 hb1.size _
  have hF2 : Blk W2 v 26 [.int .i64 ia, .int .i64 ib] := by rw [← hW2, ← hv]; exact Blk.new w1 _ [_, _]
  have hS2 := hS.bel hb2
  have hG2 := hG.bel hb2
  have hX2 := hX.bel hb2
  have hB2 : Below q w W2 := bel_tr hB0 (by omega) hb2
  rw [hW2]
  try rw [hv]
  clear hW2 s0 s1 s2 s3 s4 g0 g1 hS hG hX hB0 HI hb1 hv
  have s0 := hS2.cell 0; have s1 := hS2.cell 1; have s2 := hS2.cell 2; have s3 := hS2.cell 3; have s4 := hS2.cell 4; simp only [List.getElem?_cons_zero, List.getElem?_cons_succ] at s0 s1 s2 s3 s4
  have g0 := hG2.cell 0; have g1 := hG2.cell 1; simp only [List.getElem?_cons_zero, List.getElem?_cons_succ] at g0 g1
  have x0 := hF2.cell 0; have x1 := hF2.cell 1; simp only [List.getElem?_cons_zero, List.getElem?_cons_succ] at x0 x1
  have hB0 : Below q w W2 := hB2
  have hsz2 : p < W2.heap.size := hX2.lt
  clear hS2 hG2 hF2
  obtain ⟨T, hT⟩ : ∃ T, 100 * t = T := ⟨_, rfl⟩
  have hT0 : 0 ≤ T ∧ T ≤ 50000 := by omega
  obtain ⟨N, hN⟩ : ∃ N, n * ib = N := ⟨_, rfl⟩
  obtain ⟨TT, hTT⟩ : ∃ TT, T * T = TT := ⟨_, rfl⟩
  obtain ⟨U, hU⟩ : ∃ U, TT * N = U := ⟨_, rfl⟩
  obtain ⟨Z, hZ⟩ : ∃ Z, d * ia = Z := ⟨_, rfl⟩
  rw [hT, hTT, hN, hU, hZ] at HRO
  rw [hT, hTT, hN, hU] at m5 m6
  rw [hT, hTT] at m3 m4
  rw [hN] at m1 m2 m7
  rw [hZ] at m7 m8 m9
  go_upto_region 4 with fail
  clear hN hT hT0
  go_wp2_with (go_at_call 157; refine (HRO.out _).mono ?_; rintro e_ w1 ⟨rfl, hb1⟩; have hX1 := hX2.bel hb1; obtain ⟨x0, x1, f0, f1⟩ := blk_two hX1)
  obtain ⟨WE, hWE⟩ : ∃ WE, (w1.setCell ⟨p, 0, none⟩ (.int .i64 a)).setCell ⟨p, 1, none⟩ (.int .i64 b) = WE := ⟨_, rfl⟩
  rw [hWE]
  have hE : Blk WE p 55 [.int .i64 a, .int .i64 b] := by rw [← hWE]; exact (hX1.set_ 0 _).set_ 1 _
  have hBE : Below q w WE := by rw [← hWE]; exact ((bel_tr hB0 (by omega) hb1).setCell (by show q ≤ p; omega) _).setCell (by show q ≤ p; omega) _
  clear hWE x0 x1 f0 f1 hX1
  have g0 := hE.cell 0; have g1 := hE.cell 1; simp only [List.getElem?_cons_zero, List.getElem?_cons_succ] at g0 g1
  exact bodyPost_ret (v := .agg #[.int .i64 a, .int .i64 b]) (by simp [results, Try.results156, go_sem, g0, g1]; try rfl) rfl ⟨rfl, by first | exact hBE | (rw [hq]; exact hBE)⟩
end Go.Proofs.Ytkcjiejdjdcbeaa
