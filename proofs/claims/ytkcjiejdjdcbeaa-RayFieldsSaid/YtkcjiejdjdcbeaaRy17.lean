/- Contracts: whether a ray reaches a target. -/
import Derived.Test.YtkcjiejdjdcbeaaRy15
set_option linter.unusedSimpArgs false
set_option linter.unusedVariables false
set_option linter.unusedSimpArgs false
set_option linter.unusedVariables false
namespace Go.Proofs.Ytkcjiejdjdcbeaa
open Go.RowKit
set_option maxRecDepth 100000

theorem liesIn_c (a b c d : Int) (w : World) :
    Calls Try.prog 127 #[.agg #[.int .i64 a, .int .i64 b], .agg #[.int .i64 c, .int .i64 d]] w fun r w' => r = .returned (.bool (decide (c ≤ a) && decide (b ≤ d))) ∧ Below w.heap.size w w' := by
  obtain ⟨W, hW⟩ : ∃ W, (w.alloc (.cells #[.int .i64 a, .int .i64 b] 55)).alloc (.cells #[.int .i64 c, .int .i64 d] 55) = W := ⟨_, rfl⟩
  have hB0 : Below w.heap.size w W := by rw [← hW]; exact bel_alloc (alloc_bel _ _) (by simp) _
  have hX : Blk W w.heap.size 55 [.int .i64 a, .int .i64 b] := by rw [← hW]; exact (Blk.new w _ [_, _]).bel (alloc_bel _ _)
  have hY : Blk W (w.heap.size + 1) 55 [.int .i64 c, .int .i64 d] := by rw [← hW]; have := Blk.new (w.alloc (.cells #[.int .i64 a, .int .i64 b] 55)) 55 [.int .i64 c, .int .i64 d]; simpa using this
  have HW := hide hW
  clear hW
  have c0 := hX.cell 0; have c1 := hX.cell 1; simp only [List.getElem?_cons_zero, List.getElem?_cons_succ] at c0 c1
  have d0 := hY.cell 0; have d1 := hY.cell 1; simp only [List.getElem?_cons_zero, List.getElem?_cons_succ] at d0 d1
  by_cases h1 : c ≤ a
  · go_enter Try.func127, Try.ntmps127
    go_upto_region 1 with fail
    rw [HW.out]
    go_wp2
    go_ret
    exact ⟨ret_bool (by simp [h1]), hB0⟩
  · go_enter Try.func127, Try.ntmps127
    go_upto_region 1 with fail
    rw [HW.out]
    go_wp2
    go_ret
    have h9 : ¬ c ≤ a := by omega
    exact ⟨ret_bool (by simp only [decide_eq_false h9, Bool.false_and]), hB0⟩
/-- Whether a ray reaches a target: no, perhaps, surely. -/
def ansQ (H f n d : Int) (l : List G) (lo hi : Int) : Int :=
  if pasN f n d l = l.length then 0 else if (grdQ H f n d l).2 < lo ∨ hi < (grdQ H f n d l).1 then 0 else if lo ≤ (grdQ H f n d l).1 ∧ (grdQ H f n d l).2 ≤ hi then 2 else 1
set_option maxHeartbeats 2000000 in
theorem answerFor_c (H f n d lo hi : Int) (A : Option Addr) (c : Nat) (l : List G) (w : World) (hr : Rd w A (gs l)) (hc : l.length ≤ c) (ho : OkR H f n d l) :
    Calls Try.prog 168 #[.agg #[.int .i64 H, .slice A l.length c, .int .i64 f, .int .i64 n, .int .i64 d], .agg #[.int .i64 lo, .int .i64 hi]] w fun r w' => r = .returned (.int .i64 (ansQ H f n d l lo hi)) ∧ Below w.heap.size w w' := by
  have HX := hide (fun W (h : Rd W A (gs l)) => escapes_c H f n d A c l W h (by have := ho.l1; omega) ho.ok ho.f0 ho.f1 ho.n0 (by have := ho.n1; have := ho.d1; omega) ho.d0 ho.d1)
  have HG := hide (fun W (h : Rd W A (gs l)) => ground_c H f n d A c l W h (by have := ho.l1; omega) ho.l0 hc ho.ok (by have := ho.hH0; omega) ho.hH1 ho.f0 ho.f1 ho.n0 ho.n1 ho.d1)
  have HR : Hid (ansQ H f n d l lo hi = if pasN f n d l = l.length then 0 else if (grdQ H f n d l).2 < lo ∨ hi < (grdQ H f n d l).1 then 0 else if lo ≤ (grdQ H f n d l).1 ∧ (grdQ H f n d l).2 ≤ hi then 2 else 1) := rfl
  generalize ansQ H f n d l lo hi = an at HR ⊢
  generalize grdQ H f n d l = z at HG HR
  obtain ⟨za, zb⟩ := z
  dsimp only at HG HR
  clear ho
  obtain ⟨q, hq⟩ : ∃ q, w.heap.size = q := ⟨_, rfl⟩
  obtain ⟨q1, hq1⟩ : ∃ q1, q + 1 = q1 := ⟨_, rfl⟩
  obtain ⟨W, hW⟩ : ∃ W, (w.alloc (.cells #[.int .i64 H, .slice A l.length c, .int .i64 f, .int .i64 n, .int .i64 d] 159)).alloc (.cells #[.int .i64 lo, .int .i64 hi] 55) = W := ⟨_, rfl⟩
  have hB0 : Below q w W := by rw [← hW, ← hq]; exact bel_alloc (alloc_bel _ _) (by simp) _
  have hX : Blk W q 159 [.int .i64 H, .slice A l.length c, .int .i64 f, .int .i64 n, .int .i64 d] := by rw [← hW, ← hq]; exact (Blk.new w _ [_, _, _, _, _]).bel (alloc_bel _ _)
  have hY : Blk W q1 55 [.int .i64 lo, .int .i64 hi] := by
    rw [← hW, ← hq1, ← hq]
    have := Blk.new (w.alloc (.cells #[.int .i64 H, .slice A l.length c, .int .i64 f, .int .i64 n, .int .i64 d] 159)) 55 [.int .i64 lo, .int .i64 hi]
    simpa using this
  have hrW := hr.bel (show Below w.heap.size w W by rw [hq]; exact hB0)
  have HW := hide hW
  clear hW
  have hsz := hY.lt
  have s0 := hX.cell 0; have s1 := hX.cell 1; have s2 := hX.cell 2; have s3 := hX.cell 3; have s4 := hX.cell 4; simp only [List.getElem?_cons_zero, List.getElem?_cons_succ] at s0 s1 s2 s3 s4
  by_cases hp : pasN f n d l = l.length
  · rw [decide_eq_true hp] at HX
    have HR2 : Hid (an = 0) := by show _ = _; rw [HR.out, if_pos hp]
    clear HR HG hp
    go_enter Try.func168, Try.ntmps168
    go_upto_region 1 with fail
    try simp only [World.size_alloc, hq, hq1]
    rw [HW.out]
    go_wp2_with (go_at_call 106; refine (HX.out _ hrW).mono ?_; rintro e_ w1 ⟨rfl, hb1⟩)
    go_ret
    exact ⟨ret_int HR2.out.symm, by first | exact hB0.trans (hb1.mono (by omega)) | (rw [hq]; exact hB0.trans (hb1.mono (by omega)))⟩
  · rw [decide_eq_false hp] at HX
    have HR2 : Hid (an = if zb < lo ∨ hi < za then 0 else if lo ≤ za ∧ zb ≤ hi then 2 else 1) := by show _ = _; rw [HR.out, if_neg hp]
    clear HR hp
    go_enter Try.func168, Try.ntmps168
    go_upto_region 1 with fail
    try simp only [World.size_alloc, hq, hq1]
    rw [HW.out]
    go_upto_region 4 with (first
      | (go_at_call 106; refine (HX.out _ hrW).mono ?_; rintro e_ w1 ⟨rfl, hb1⟩; have kX1 := hX.bel hb1; obtain ⟨u0, u1, u2, u3, u4⟩ := blk_five kX1)
      | (go_at_call 109; refine (HG.out _ (hrW.bel hb1)).mono ?_; rintro e_ w2 ⟨rfl, hb2⟩))
    obtain ⟨v, hv⟩ : ∃ v, w2.heap.size = v := ⟨_, rfl⟩
    obtain ⟨W3, hW3⟩ : ∃ W3, w2.alloc (.cells #[.int .i64 za, .int .i64 zb] 55) = W3 := ⟨_, rfl⟩
    have b3 : Below w2.heap.size w2 W3 := by rw [← hW3]; exact alloc_bel _ _
    have kZ : Blk W3 v 55 [.int .i64 za, .int .i64 zb] := by rw [← hW3, ← hv]; exact Blk.new w2 _ [_, _]
    have kY := ((hY.bel hb1).bel hb2).bel b3
    have hB3 : Below q w W3 := ((hB0.trans (hb1.mono (by omega))).trans (hb2.mono (by have := hb1.size; omega))).trans (b3.mono (by have := hb1.size; have := hb2.size; omega))
    have z3 : q ≤ W3.heap.size := by have := hb1.size; have := hb2.size; have := b3.size; omega
    rw [hW3]
    try simp only [hv]
    clear hW3 s0 s1 s2 s3 s4 u0 u1 u2 u3 u4 kX1 hX hY hrW HX HG hb1 hb2 b3 hv
    have z0 := kZ.cell 0; have z1 := kZ.cell 1; simp only [List.getElem?_cons_zero, List.getElem?_cons_succ] at z0 z1
    have y0 := kY.cell 0; have y1 := kY.cell 1; simp only [List.getElem?_cons_zero, List.getElem?_cons_succ] at y0 y1
    by_cases h1 : zb < lo
    · have HR3 : Hid (an = 0) := by show _ = _; rw [HR2.out, if_pos (.inl h1)]
      clear HR2
      go_wp2
      go_ret
      exact ⟨ret_int HR3.out.symm, by first | exact hB3 | (rw [hq]; exact hB3)⟩
    · by_cases h2 : hi < za
      · have HR3 : Hid (an = 0) := by show _ = _; rw [HR2.out, if_pos (.inr h2)]
        clear HR2
        go_wp2
        go_ret
        exact ⟨ret_int HR3.out.symm, by first | exact hB3 | (rw [hq]; exact hB3)⟩
      · have HL := hide (fun W => liesIn_c za zb lo hi W)
        have HR3 : Hid (an = if (decide (lo ≤ za) && decide (zb ≤ hi)) = true then 2 else 1) := by
          show _ = _
          rw [HR2.out, if_neg (fun h => h.elim h1 h2)]
          simp only [Bool.and_eq_true, decide_eq_true_eq]
        cases hli : (decide (lo ≤ za) && decide (zb ≤ hi))
        · rw [hli] at HL HR3
          have HR4 : Hid (an = 1) := HR3.out
          clear HR2 HR3 hli
          go_wp2_with (go_at_call 127; refine (HL.out _).mono ?_; rintro e_ w5 ⟨rfl, hb5⟩)
          go_ret
          exact ⟨ret_int HR4.out.symm, by first | exact hB3.trans (hb5.mono z3) | (rw [hq]; exact hB3.trans (hb5.mono z3))⟩
        · rw [hli] at HL HR3
          have HR4 : Hid (an = 2) := HR3.out
          clear HR2 HR3 hli
          go_wp2_with (go_at_call 127; refine (HL.out _).mono ?_; rintro e_ w5 ⟨rfl, hb5⟩)
          go_ret
          exact ⟨ret_int HR4.out.symm, by first | exact hB3.trans (hb5.mono z3) | (rw [hq]; exact hB3.trans (hb5.mono z3))⟩
end Go.Proofs.Ytkcjiejdjdcbeaa
