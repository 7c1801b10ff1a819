/- Contracts: the apex of a ray. -/
import Derived.Test.YtkcjiejdjdcbeaaRy14
import Derived.Test.YtkcjiejdjdcbeaaRy13
set_option linter.unusedSimpArgs false
set_option linter.unusedVariables false
set_option linter.unusedSimpArgs false
set_option linter.unusedVariables false
namespace Go.Proofs.Ytkcjiejdjdcbeaa
open Go.RowKit
set_option maxRecDepth 100000

/-- The height of the lower border behind slabs. -/
def brdQ (H : Int) (l : List G) : Int := l.foldl (fun s g => s + g.1) H
theorem brdQ_take {H : Int} {l : List G} {k : Nat} (hk : k < l.length) : brdQ H (l.take (k + 1)) = brdQ H (l.take k) + l[k].1 := by
  unfold brdQ
  rw [List.take_succ_eq_append_getElem hk, List.foldl_append]
  rfl
theorem brdQ_bd {l : List G} (hok : OkS l) (H : Int) : ∀ k, k ≤ l.length → H ≤ brdQ H (l.take k) ∧ brdQ H (l.take k) ≤ H + 500 * k
  | 0, _ => by simp [brdQ]
  | k + 1, h => by
    have ih := brdQ_bd hok H k (by omega)
    have o := hok l[k] (List.getElem_mem (by omega))
    rw [brdQ_take (by omega)]
    push_cast
    omega
/-- The apex of a ray, and the error. -/
def apxQ (H f n d : Int) (l : List G) : (Bool × Int × Int) × Int :=
  if rayE H f n d l ≠ 0 then ((false, 0, 0), rayE H f n d l) else if pasN f n d l = l.length then ((false, 0, 0), 0) else ((true, (pasN f n d l : Int), brdQ H (l.take (pasN f n d l))), 0)
theorem apexOf_bad (H f n d : Int) (A : Option Addr) (c : Nat) (l : List G) (w : World) (hr : Rd w A (gs l)) (hl : l.length ≤ 1000) (g1 : -9223372036854775808 ≤ n) (g2 : n ≤ 9223372036854775807) (g3 : d ≤ 9223372036854775807) (he : rayE H f n d l ≠ 0) :
    Calls Try.prog 30 #[.agg #[.int .i64 H, .slice A l.length c], .int .i64 f, .agg #[.int .i64 n, .int .i64 d]] w fun r w' => r = .returned (.tuple #[.agg #[.bool (apxQ H f n d l).1.1, .int .i64 (apxQ H f n d l).1.2.1, .int .i64 (apxQ H f n d l).1.2.2], .int .i64 (apxQ H f n d l).2]) ∧ Below w.heap.size w w' := by
  have HS := hide (fun W (h : Rd W A (gs l)) => shotOf_bad H f n d A c l W h hl g1 g2 g3 he)
  have HR : Hid (apxQ H f n d l = ((false, 0, 0), rayE H f n d l)) := by show _ = _; unfold apxQ; rw [if_pos he]
  generalize rayE H f n d l = e at HS HR he
  have e1 : (e != 0) = true := by simpa using he
  unfold shotV at HS
  clear he
  obtain ⟨q, hq⟩ : ∃ q, w.heap.size = q := ⟨_, rfl⟩
  obtain ⟨q1, hq1⟩ : ∃ q1, q + 1 = q1 := ⟨_, rfl⟩
  obtain ⟨q2, hq2⟩ : ∃ q2, q1 + 1 = q2 := ⟨_, rfl⟩
  obtain ⟨Wa, hWa⟩ : ∃ Wa, w.alloc (.cells #[.int .i64 H, .slice A l.length c] 24) = Wa := ⟨_, rfl⟩
  have ba : Below w.heap.size w Wa := by rw [← hWa]; exact alloc_bel _ _
  have sa : Wa.heap.size = q1 := by rw [← hWa, ← hq1, ← hq]; simp
  have ka : Blk Wa q 24 [.int .i64 H, .slice A l.length c] := by rw [← hWa, ← hq]; exact Blk.new w _ [_, _]
  obtain ⟨Wb, hWb⟩ : ∃ Wb, Wa.alloc (.cells #[.int .i64 n, .int .i64 d] 26) = Wb := ⟨_, rfl⟩
  have bb : Below Wa.heap.size Wa Wb := by rw [← hWb]; exact alloc_bel _ _
  have sb : Wb.heap.size = q2 := by rw [← hWb, ← hq2, ← sa]; simp
  have kb : Blk Wb q1 26 [.int .i64 n, .int .i64 d] := by rw [← hWb, ← sa]; exact Blk.new Wa _ [_, _]
  obtain ⟨Wc, hWc⟩ : ∃ Wc, Wb.alloc (.cells #[.bool false, .int .i64 0, .int .i64 0] 48) = Wc := ⟨_, rfl⟩
  have bc : Below Wb.heap.size Wb Wc := by rw [← hWc]; exact alloc_bel _ _
  have kc : Blk Wc q2 48 [.bool false, .int .i64 0, .int .i64 0] := by rw [← hWc, ← sb]; exact Blk.new Wb _ _
  have hABC : ((w.alloc (.cells #[.int .i64 H, .slice A l.length c] 24)).alloc (.cells #[.int .i64 n, .int .i64 d] 26)).alloc (.cells #[.bool false, .int .i64 0, .int .i64 0] 48) = Wc := by rw [hWa, hWb, hWc]
  have HW := hide hABC
  have k1 := (ka.bel bb).bel bc
  have k2 := kb.bel bc
  have hrc := ((hr.bel ba).bel bb).bel bc
  have hBc : Below q w Wc := by
    rw [hq] at ba
    rw [sa] at bb
    rw [sb] at bc
    exact (ba.trans (bb.mono (by omega))).trans (bc.mono (by omega))
  have zc : q < Wc.heap.size ∧ q1 < Wc.heap.size ∧ q2 < Wc.heap.size := ⟨k1.lt, k2.lt, kc.lt⟩
  clear hABC hWa hWb hWc ba bb bc ka kb sa sb
  have s0 := k1.cell 0; have s1 := k1.cell 1; simp only [List.getElem?_cons_zero, List.getElem?_cons_succ] at s0 s1
  have t0 := k2.cell 0; have t1 := k2.cell 1; simp only [List.getElem?_cons_zero, List.getElem?_cons_succ] at t0 t1
  go_enter Try.func30, Try.ntmps30
  go_upto_region 1 with fail
  try simp only [World.size_alloc, hq, hq1, hq2]
  rw [HW.out]
  go_upto_region 2 with (go_at_call 103; refine (HS.out _ hrc).mono ?_; rintro e_ w1 ⟨rfl, hb1⟩)
  obtain ⟨v, hv⟩ : ∃ v, w1.heap.size = v := ⟨_, rfl⟩
  obtain ⟨W2, hW2⟩ : ∃ W2, w1.alloc (.cells #[.int .i64 0, .slice none 0 0, .int .i64 0, .int .i64 0, .int .i64 0] 159) = W2 := ⟨_, rfl⟩
  have hbS : Below w1.heap.size w1 W2 := by rw [← hW2]; exact alloc_bel _ _
  have kS2 : Blk W2 v 159 [.int .i64 0, .slice none 0 0, .int .i64 0, .int .i64 0, .int .i64 0] := by rw [← hW2, ← hv]; exact Blk.new w1 _ _
  have kc2 := (kc.bel hb1).bel hbS
  have hB2 : Below q w W2 := (hBc.trans (hb1.mono (by omega))).trans (hbS.mono (by have := hb1.size; omega))
  have z2 : q < W2.heap.size := by have := hbS.size; have := hb1.size; omega
  rw [hW2]
  try simp only [hv]
  clear hW2 s0 s1 t0 t1 k1 k2
  obtain ⟨x0, x1, x2⟩ : W2.cell? ⟨q2, 0, none⟩ = some (.bool false) ∧ W2.cell? ⟨q2, 1, none⟩ = some (.int .i64 0) ∧ W2.cell? ⟨q2, 2, none⟩ = some (.int .i64 0) := ⟨kc2.cell 0, kc2.cell 1, kc2.cell 2⟩
  obtain ⟨f0, f1, f2⟩ : W2.frozen? ⟨q2, 0, none⟩ = false ∧ W2.frozen? ⟨q2, 1, none⟩ = false ∧ W2.frozen? ⟨q2, 2, none⟩ = false := ⟨kc2.frozen 0, kc2.frozen 1, kc2.frozen 2⟩
  go_wp2
  obtain ⟨WE, hWE⟩ : ∃ WE, ((W2.setCell ⟨q2, 0, none⟩ (.bool false)).setCell ⟨q2, 1, none⟩ (.int .i64 (0))).setCell ⟨q2, 2, none⟩ (.int .i64 (0)) = WE := ⟨_, rfl⟩
  rw [hWE]
  have hE : Blk WE q2 48 [.bool false, .int .i64 (0), .int .i64 (0)] := by rw [← hWE]; exact ((kc2.set_ 0 _).set_ 1 _).set_ 2 _
  have hqq : q ≤ q2 := by omega
  have hBE : Below q w WE := by rw [← hWE]; exact ((hB2.setCell hqq _).setCell hqq _).setCell hqq _
  clear hWE
  have g0 := hE.cell 0; have g1 := hE.cell 1; have g2 := hE.cell 2; simp only [List.getElem?_cons_zero, List.getElem?_cons_succ] at g0 g1 g2
  exact bodyPost_ret (v := .tuple #[.agg #[.bool false, .int .i64 (0), .int .i64 (0)], .int .i64 (e)]) (by simp [results, Try.results30, go_sem, g0, g1, g2]; try rfl) rfl ⟨by rw [HR.out]; try rfl, by first | exact hBE | (rw [hq]; exact hBE)⟩
theorem apexOf_esc (H f n d : Int) (A : Option Addr) (c : Nat) (l : List G) (w : World) (hr : Rd w A (gs l)) (he : rayE H f n d l = 0) (hp : pasN f n d l = l.length) :
    Calls Try.prog 30 #[.agg #[.int .i64 H, .slice A l.length c], .int .i64 f, .agg #[.int .i64 n, .int .i64 d]] w fun r w' => r = .returned (.tuple #[.agg #[.bool (apxQ H f n d l).1.1, .int .i64 (apxQ H f n d l).1.2.1, .int .i64 (apxQ H f n d l).1.2.2], .int .i64 (apxQ H f n d l).2]) ∧ Below w.heap.size w w' := by
  have ho := okR he
  have HS := hide (fun W (h : Rd W A (gs l)) => shotOf_ok H f n d A c l W h (by have := ho.l1; omega) (by have := ho.n0; omega) (by have := ho.n1; have := ho.d1; omega) (by have := ho.d1; omega) he)
  have HX := hide (fun W (h : Rd W A (gs l)) => escapes_c H f n d A c l W h (by have := ho.l1; omega) ho.ok ho.f0 ho.f1 ho.n0 (by have := ho.n1; have := ho.d1; omega) ho.d0 ho.d1)
  have HR : Hid (apxQ H f n d l = ((false, 0, 0), 0)) := by show _ = _; unfold apxQ; rw [if_neg (by rw [he]; simp), if_pos hp]
  unfold shotV at HS
  rw [decide_eq_true hp] at HX
  clear ho he hp
  obtain ⟨q, hq⟩ : ∃ q, w.heap.size = q := ⟨_, rfl⟩
  obtain ⟨q1, hq1⟩ : ∃ q1, q + 1 = q1 := ⟨_, rfl⟩
  obtain ⟨q2, hq2⟩ : ∃ q2, q1 + 1 = q2 := ⟨_, rfl⟩
  obtain ⟨Wa, hWa⟩ : ∃ Wa, w.alloc (.cells #[.int .i64 H, .slice A l.length c] 24) = Wa := ⟨_, rfl⟩
  have ba : Below w.heap.size w Wa := by rw [← hWa]; exact alloc_bel _ _
  have sa : Wa.heap.size = q1 := by rw [← hWa, ← hq1, ← hq]; simp
  have ka : Blk Wa q 24 [.int .i64 H, .slice A l.length c] := by rw [← hWa, ← hq]; exact Blk.new w _ [_, _]
  obtain ⟨Wb, hWb⟩ : ∃ Wb, Wa.alloc (.cells #[.int .i64 n, .int .i64 d] 26) = Wb := ⟨_, rfl⟩
  have bb : Below Wa.heap.size Wa Wb := by rw [← hWb]; exact alloc_bel _ _
  have sb : Wb.heap.size = q2 := by rw [← hWb, ← hq2, ← sa]; simp
  have kb : Blk Wb q1 26 [.int .i64 n, .int .i64 d] := by rw [← hWb, ← sa]; exact Blk.new Wa _ [_, _]
  obtain ⟨Wc, hWc⟩ : ∃ Wc, Wb.alloc (.cells #[.bool false, .int .i64 0, .int .i64 0] 48) = Wc := ⟨_, rfl⟩
  have bc : Below Wb.heap.size Wb Wc := by rw [← hWc]; exact alloc_bel _ _
  have kc : Blk Wc q2 48 [.bool false, .int .i64 0, .int .i64 0] := by rw [← hWc, ← sb]; exact Blk.new Wb _ _
  have hABC : ((w.alloc (.cells #[.int .i64 H, .slice A l.length c] 24)).alloc (.cells #[.int .i64 n, .int .i64 d] 26)).alloc (.cells #[.bool false, .int .i64 0, .int .i64 0] 48) = Wc := by rw [hWa, hWb, hWc]
  have HW := hide hABC
  have k1 := (ka.bel bb).bel bc
  have k2 := kb.bel bc
  have hrc := ((hr.bel ba).bel bb).bel bc
  have hBc : Below q w Wc := by
    rw [hq] at ba
    rw [sa] at bb
    rw [sb] at bc
    exact (ba.trans (bb.mono (by omega))).trans (bc.mono (by omega))
  have zc : q < Wc.heap.size ∧ q1 < Wc.heap.size ∧ q2 < Wc.heap.size := ⟨k1.lt, k2.lt, kc.lt⟩
  clear hABC hWa hWb hWc ba bb bc ka kb sa sb
  have s0 := k1.cell 0; have s1 := k1.cell 1; simp only [List.getElem?_cons_zero, List.getElem?_cons_succ] at s0 s1
  have t0 := k2.cell 0; have t1 := k2.cell 1; simp only [List.getElem?_cons_zero, List.getElem?_cons_succ] at t0 t1
  go_enter Try.func30, Try.ntmps30
  go_upto_region 1 with fail
  try simp only [World.size_alloc, hq, hq1, hq2]
  rw [HW.out]
  go_upto_region 2 with (go_at_call 103; refine (HS.out _ hrc).mono ?_; rintro e_ w1 ⟨rfl, hb1⟩)
  obtain ⟨v, hv⟩ : ∃ v, w1.heap.size = v := ⟨_, rfl⟩
  obtain ⟨W2, hW2⟩ : ∃ W2, w1.alloc (.cells #[.int .i64 H, .slice A l.length c, .int .i64 f, .int .i64 n, .int .i64 d] 159) = W2 := ⟨_, rfl⟩
  have hbS : Below w1.heap.size w1 W2 := by rw [← hW2]; exact alloc_bel _ _
  have kS2 : Blk W2 v 159 [.int .i64 H, .slice A l.length c, .int .i64 f, .int .i64 n, .int .i64 d] := by rw [← hW2, ← hv]; exact Blk.new w1 _ _
  have kc2 := (kc.bel hb1).bel hbS
  have hB2 : Below q w W2 := (hBc.trans (hb1.mono (by omega))).trans (hbS.mono (by have := hb1.size; omega))
  have z2 : q < W2.heap.size := by have := hbS.size; have := hb1.size; omega
  rw [hW2]
  try simp only [hv]
  clear hW2 s0 s1 t0 t1 k1 k2
  have s0 := kS2.cell 0; have s1 := kS2.cell 1; have s2 := kS2.cell 2; have s3 := kS2.cell 3; have s4 := kS2.cell 4; simp only [List.getElem?_cons_zero, List.getElem?_cons_succ] at s0 s1 s2 s3 s4
  have hr2 := (hrc.bel hb1).bel hbS
  go_wp2_with (go_at_call 106; refine (HX.out _ hr2).mono ?_; rintro e_ w3 ⟨rfl, hb3⟩; have kc3 := kc2.bel hb3; have hB3 : Below q w w3 := hB2.trans (hb3.mono (by omega)); obtain ⟨x0, x1, x2⟩ : w3.cell? ⟨q2, 0, none⟩ = some (.bool false) ∧ w3.cell? ⟨q2, 1, none⟩ = some (.int .i64 0) ∧ w3.cell? ⟨q2, 2, none⟩ = some (.int .i64 0) := ⟨kc3.cell 0, kc3.cell 1, kc3.cell 2⟩; obtain ⟨f0, f1, f2⟩ : w3.frozen? ⟨q2, 0, none⟩ = false ∧ w3.frozen? ⟨q2, 1, none⟩ = false ∧ w3.frozen? ⟨q2, 2, none⟩ = false := ⟨kc3.frozen 0, kc3.frozen 1, kc3.frozen 2⟩)
  obtain ⟨WE, hWE⟩ : ∃ WE, ((w3.setCell ⟨q2, 0, none⟩ (.bool false)).setCell ⟨q2, 1, none⟩ (.int .i64 (0))).setCell ⟨q2, 2, none⟩ (.int .i64 (0)) = WE := ⟨_, rfl⟩
  rw [hWE]
  have hE : Blk WE q2 48 [.bool false, .int .i64 (0), .int .i64 (0)] := by rw [← hWE]; exact ((kc3.set_ 0 _).set_ 1 _).set_ 2 _
  have hqq : q ≤ q2 := by omega
  have hBE : Below q w WE := by rw [← hWE]; exact ((hB3.setCell hqq _).setCell hqq _).setCell hqq _
  clear hWE
  have g0 := hE.cell 0; have g1 := hE.cell 1; have g2 := hE.cell 2; simp only [List.getElem?_cons_zero, List.getElem?_cons_succ] at g0 g1 g2
  exact bodyPost_ret (v := .tuple #[.agg #[.bool false, .int .i64 (0), .int .i64 (0)], .int .i64 (0)]) (by simp [results, Try.results30, go_sem, g0, g1, g2]; try rfl) rfl ⟨by rw [HR.out]; try rfl, by first | exact hBE | (rw [hq]; exact hBE)⟩
set_option maxHeartbeats 4000000 in
theorem apexOf_ok (H f n d : Int) (A : Option Addr) (c : Nat) (l : List G) (w : World) (hr : Rd w A (gs l)) (hc : l.length ≤ c) (he : rayE H f n d l = 0) (hp : ¬ pasN f n d l = l.length) :
    Calls Try.prog 30 #[.agg #[.int .i64 H, .slice A l.length c], .int .i64 f, .agg #[.int .i64 n, .int .i64 d]] w fun r w' => r = .returned (.tuple #[.agg #[.bool (apxQ H f n d l).1.1, .int .i64 (apxQ H f n d l).1.2.1, .int .i64 (apxQ H f n d l).1.2.2], .int .i64 (apxQ H f n d l).2]) ∧ Below w.heap.size w w' := by
  have ho := okR he
  have HS := hide (fun W (h : Rd W A (gs l)) => shotOf_ok H f n d A c l W h (by have := ho.l1; omega) (by have := ho.n0; omega) (by have := ho.n1; have := ho.d1; omega) (by have := ho.d1; omega) he)
  have HX := hide (fun W (h : Rd W A (gs l)) => escapes_c H f n d A c l W h (by have := ho.l1; omega) ho.ok ho.f0 ho.f1 ho.n0 (by have := ho.n1; have := ho.d1; omega) ho.d0 ho.d1)
  have HP := hide (fun W (h : Rd W A (gs l)) => passed_c H f n d A c l W h (by have := ho.l1; omega) ho.ok ho.f0 ho.f1 ho.n0 (by have := ho.n1; have := ho.d1; omega) ho.d0 ho.d1)
  have HR : Hid (apxQ H f n d l = ((true, (pasN f n d l : Int), brdQ H (l.take (pasN f n d l))), 0)) := by show _ = _; unfold apxQ; rw [if_neg (by rw [he]; simp), if_neg hp]
  have hPl := pasN_le f n d l
  have hPl2 : pasN f n d l < l.length := by omega
  unfold shotV at HS
  rw [decide_eq_false hp] at HX
  generalize pasN f n d l = P at HP HR hPl hPl2
  have hH0 := ho.hH0
  have hH1 := ho.hH1
  have hl12 := ho.l1
  have hok := ho.ok
  obtain ⟨b0, off0, hA0, hb0lt, _, _⟩ := hr.g_at (show 0 < l.length by omega)
  replace hA0 := hide hA0
  clear ho he hp
  obtain ⟨q, hq⟩ : ∃ q, w.heap.size = q := ⟨_, rfl⟩
  obtain ⟨q1, hq1⟩ : ∃ q1, q + 1 = q1 := ⟨_, rfl⟩
  obtain ⟨q2, hq2⟩ : ∃ q2, q1 + 1 = q2 := ⟨_, rfl⟩
  obtain ⟨Wa, hWa⟩ : ∃ Wa, w.alloc (.cells #[.int .i64 H, .slice A l.length c] 24) = Wa := ⟨_, rfl⟩
  have ba : Below w.heap.size w Wa := by rw [← hWa]; exact alloc_bel _ _
  have sa : Wa.heap.size = q1 := by rw [← hWa, ← hq1, ← hq]; simp
  have ka : Blk Wa q 24 [.int .i64 H, .slice A l.length c] := by rw [← hWa, ← hq]; exact Blk.new w _ [_, _]
  obtain ⟨Wb, hWb⟩ : ∃ Wb, Wa.alloc (.cells #[.int .i64 n, .int .i64 d] 26) = Wb := ⟨_, rfl⟩
  have bb : Below Wa.heap.size Wa Wb := by rw [← hWb]; exact alloc_bel _ _
  have sb : Wb.heap.size = q2 := by rw [← hWb, ← hq2, ← sa]; simp
  have kb : Blk Wb q1 26 [.int .i64 n, .int .i64 d] := by rw [← hWb, ← sa]; exact Blk.new Wa _ [_, _]
  obtain ⟨Wc, hWc⟩ : ∃ Wc, Wb.alloc (.cells #[.bool false, .int .i64 0, .int .i64 0] 48) = Wc := ⟨_, rfl⟩
  have bc : Below Wb.heap.size Wb Wc := by rw [← hWc]; exact alloc_bel _ _
  have kc : Blk Wc q2 48 [.bool false, .int .i64 0, .int .i64 0] := by rw [← hWc, ← sb]; exact Blk.new Wb _ _
  have hABC : ((w.alloc (.cells #[.int .i64 H, .slice A l.length c] 24)).alloc (.cells #[.int .i64 n, .int .i64 d] 26)).alloc (.cells #[.bool false, .int .i64 0, .int .i64 0] 48) = Wc := by rw [hWa, hWb, hWc]
  have HW := hide hABC
  have k1 := (ka.bel bb).bel bc
  have k2 := kb.bel bc
  have hrc := ((hr.bel ba).bel bb).bel bc
  have hBc : Below q w Wc := by
    rw [hq] at ba
    rw [sa] at bb
    rw [sb] at bc
    exact (ba.trans (bb.mono (by omega))).trans (bc.mono (by omega))
  have zc : q < Wc.heap.size ∧ q1 < Wc.heap.size ∧ q2 < Wc.heap.size := ⟨k1.lt, k2.lt, kc.lt⟩
  clear hABC hWa hWb hWc ba bb bc ka kb sa sb
  have s0 := k1.cell 0; have s1 := k1.cell 1; simp only [List.getElem?_cons_zero, List.getElem?_cons_succ] at s0 s1
  have t0 := k2.cell 0; have t1 := k2.cell 1; simp only [List.getElem?_cons_zero, List.getElem?_cons_succ] at t0 t1
  go_enter Try.func30, Try.ntmps30
  go_upto_region 1 with fail
  try simp only [World.size_alloc, hq, hq1, hq2]
  rw [HW.out]
  go_upto_region 2 with (go_at_call 103; refine (HS.out _ hrc).mono ?_; rintro e_ w1 ⟨rfl, hb1⟩)
  obtain ⟨v, hv⟩ : ∃ v, w1.heap.size = v := ⟨_, rfl⟩
  obtain ⟨W2, hW2⟩ : ∃ W2, w1.alloc (.cells #[.int .i64 H, .slice A l.length c, .int .i64 f, .int .i64 n, .int .i64 d] 159) = W2 := ⟨_, rfl⟩
  have hbS : Below w1.heap.size w1 W2 := by rw [← hW2]; exact alloc_bel _ _
  have kS2 : Blk W2 v 159 [.int .i64 H, .slice A l.length c, .int .i64 f, .int .i64 n, .int .i64 d] := by rw [← hW2, ← hv]; exact Blk.new w1 _ _
  have kc2 := (kc.bel hb1).bel hbS
  have hB2 : Below q w W2 := (hBc.trans (hb1.mono (by omega))).trans (hbS.mono (by have := hb1.size; omega))
  have z2 : q < W2.heap.size := by have := hbS.size; have := hb1.size; omega
  rw [hW2]
  try simp only [hv]
  clear hW2 s0 s1 t0 t1 k1 k2
  have s0 := kS2.cell 0; have s1 := kS2.cell 1; have s2 := kS2.cell 2; have s3 := kS2.cell 3; have s4 := kS2.cell 4; simp only [List.getElem?_cons_zero, List.getElem?_cons_succ] at s0 s1 s2 s3 s4
  have hr2 := (hrc.bel hb1).bel hbS
  go_upto_region 4 with (go_at_call 106; refine (HX.out _ hr2).mono ?_; rintro e_ w3 ⟨rfl, hb3⟩; have kS3 := kS2.bel hb3; have kc3 := kc2.bel hb3; have hr3 := hr2.bel hb3; have hB3 : Below q w w3 := hB2.trans (hb3.mono (by omega)))
  have zv3 := kS3.lt
  have zc3 := kc3.lt
  clear kS2 kc2 hB2 hbS hb3 hb1 hr2 hrc HX HS s0 s1 s2 s3 s4 z2
  have s0 := kS3.cell 0; have s1 := kS3.cell 1; have s2 := kS3.cell 2; have s3 := kS3.cell 3; have s4 := kS3.cell 4; simp only [List.getElem?_cons_zero, List.getElem?_cons_succ] at s0 s1 s2 s3 s4
  go_cut [10] from 28 to 33 (fun x wr2 => ∃ b : Nat, x = .pointer (some ⟨b, 0, none⟩) ∧ Blk wr2 b 48 [.bool true, .int .i64 (P : Int), .int .i64 H] ∧ Below w3.heap.size w3 wr2 ∧ w3.heap.size ≤ b)
  case first =>
    have hSd : (∀ b o, b < w3.heap.size → w3.drew.cell? ⟨b, o, none⟩ = w3.cell? ⟨b, o, none⟩) ∧ Below w3.heap.size w3 w3.drew := kp (Below.refl _ _).drew
    refine wp_region_held (S := fun w' => (∀ b o, b < w3.heap.size → w'.cell? ⟨b, o, none⟩ = w3.cell? ⟨b, o, none⟩) ∧ Below w3.heap.size w3 w') (by kernel_rfl) ?_
    change wpAnyH _ _ _ _ _ _ _ _ w3.drew
    refine wpAnyH_take (i := 0) (v := ?_) rfl (by kernel_rfl) (by kernel_rfl) (by kernel_rfl) (fun _ _ _ h => h) (Or.inl ⟨by kernel_rfl, ?_⟩) (by assumption) ?_
    rotate_left 1
    · (intro w hSw; obtain ⟨hk1, hk2⟩ := hSw; go_simp <;> with_reducible rfl)
    simp only [Act.put, List.getElem_toArray, List.getElem_cons_zero, List.setIfInBounds_toArray, List.set_cons_zero, List.set_cons_succ]
    refine wpAnyH_take (i := 2) (v := ?_) rfl (by kernel_rfl) (by kernel_rfl) (by kernel_rfl) (fun _ _ _ h => h) (Or.inl ⟨by kernel_rfl, ?_⟩) (by assumption) ?_
    rotate_left 1
    · (intro w hSw; obtain ⟨hk1, hk2⟩ := hSw; go_simp <;> with_reducible rfl)
    simp only [Act.put, List.getElem_toArray, List.getElem_cons_zero, List.getElem_cons_succ, List.setIfInBounds_toArray, List.set_cons_zero, List.set_cons_succ]
    refine wpAnyH_take (i := 3) (v := ?_) rfl (by kernel_rfl) (by kernel_rfl) (by kernel_rfl) (fun _ _ _ h => h) (Or.inl ⟨by kernel_rfl, ?_⟩) (by assumption) ?_
    rotate_left 1
    · (intro w hSw; obtain ⟨hk1, hk2⟩ := hSw; go_simp <;> with_reducible rfl)
    simp only [Act.put, List.getElem_toArray, List.getElem_cons_zero, List.getElem_cons_succ, List.setIfInBounds_toArray, List.set_cons_zero, List.set_cons_succ]
    refine wpAnyH_take (i := 4) (v := ?_) rfl (by kernel_rfl) (by kernel_rfl) (by kernel_rfl) (fun _ _ _ h => h) (Or.inl ⟨by kernel_rfl, ?_⟩) (by assumption) ?_
    rotate_left 1
    · (intro w hSw; obtain ⟨hk1, hk2⟩ := hSw; go_simp <;> with_reducible rfl)
    simp only [Act.put, List.getElem_toArray, List.getElem_cons_zero, List.getElem_cons_succ, List.setIfInBounds_toArray, List.set_cons_zero, List.set_cons_succ]
    obtain ⟨Q2, hQ2⟩ : ∃ Q2 : World → Prop, Q2 = fun wx => Below w3.heap.size w3 wx := ⟨_, rfl⟩
    refine nextH2 (i := 1) (j := 6) (by kernel_rfl) rfl rfl (fun K hK => ?_) (fun K hK => ?_)
    · go_simp
      refine (HP.out _ (hr3.bel hSd.2)).mono ?_
      rintro e_ w1 ⟨rfl, hbx⟩
      have hS' := kp (bel_tr hSd.2 hSd.2.size hbx)
      try dsimp only
      refine hK _ _ hS' ?_
      clear hK K hSd hbx
      have hSd := hS'
      clear hS'
      refine wpAnyH_take (i := 5) (v := ?_) rfl (by kernel_rfl) (by kernel_rfl) (by kernel_rfl) (fun _ _ _ h => h) (Or.inl ⟨by kernel_rfl, ?_⟩) (by assumption) ?_
      rotate_left 1
      · (intro w hSw; obtain ⟨hk1, hk2⟩ := hSw; go_simp <;> with_reducible rfl)
      simp only [Act.put, List.getElem_toArray, List.getElem_cons_zero, List.getElem_cons_succ, List.setIfInBounds_toArray, List.set_cons_zero, List.set_cons_succ]
      refine nextH (i := 6) (by kernel_rfl) rfl (fun K hK => ?_)
      go_simp
      have hS6 := kp (bel_alloc hSd.2 hSd.2.size (.cells #[.bool false, .int .i64 0, .int .i64 0] 48))
      have hBl := Blk.new w1 48 [.bool false, .int .i64 0, .int .i64 0]
      refine hK _ _ hS6 ?_
      clear hK K
      obtain ⟨v9, hv9⟩ : ∃ v9, w1.heap.size = v9 := ⟨_, rfl⟩
      obtain ⟨wx, hwx⟩ : ∃ wx, w1.alloc (.cells #[.bool false, .int .i64 0, .int .i64 0] 48) = wx := ⟨_, rfl⟩
      have hvr : w3.heap.size ≤ v9 := by rw [← hv9]; exact hSd.2.size
      rw [hwx, hv9] at hBl
      rw [hwx] at hS6 ⊢
      try rw [hv9]
      have hbx := hS6.2
      clear hwx hS6 hSd hv9
      obtain ⟨x0, x1, x2⟩ : wx.cell? ⟨v9, 0, none⟩ = some (.bool false) ∧ wx.cell? ⟨v9, 1, none⟩ = some (.int .i64 0) ∧ wx.cell? ⟨v9, 2, none⟩ = some (.int .i64 0) := ⟨hBl.cell 0, hBl.cell 1, hBl.cell 2⟩
      obtain ⟨f0, f1, f2⟩ : wx.frozen? ⟨v9, 0, none⟩ = false ∧ wx.frozen? ⟨v9, 1, none⟩ = false ∧ wx.frozen? ⟨v9, 2, none⟩ = false := ⟨hBl.frozen 0, hBl.frozen 1, hBl.frozen 2⟩
      refine nextH (i := 7) (by kernel_rfl) rfl (fun K hK => ?_)
      go_simp
      obtain ⟨WE, hWE⟩ : ∃ WE, ((wx.setCell ⟨v9, 0, none⟩ (.bool true)).setCell ⟨v9, 1, none⟩ (.int .i64 (P : Int))).setCell ⟨v9, 2, none⟩ (.int .i64 H) = WE := ⟨_, rfl⟩
      rw [hWE]
      have hE : Blk WE (v9) 48 [.bool true, .int .i64 (P : Int), .int .i64 H] := by rw [← hWE]; exact ((hBl.set_ 0 _).set_ 1 _).set_ 2 _
      have hbE : Below w3.heap.size w3 WE := by rw [← hWE]; exact ((hbx.setCell hvr _).setCell hvr _).setCell hvr _
      clear hWE x0 x1 x2 f0 f1 f2 hBl
      refine hK _ _ (kp hbE) ?_
      clear hK K
      refine wpAnyH_done (by kernel_rfl) ?_ _
      go_wp2
      go_meet
      exact ⟨v9, rfl, hE, hbE, hvr⟩
    · go_simp
      have hB6 : Below w3.heap.size w3 (w3.alloc (.cells #[.bool false, .int .i64 0, .int .i64 0] 48)).drew := (alloc_bel w3 _).drew
      have hBl0 : Blk (w3.alloc (.cells #[.bool false, .int .i64 0, .int .i64 0] 48)).drew w3.heap.size 48 [.bool false, .int .i64 0, .int .i64 0] := Blk.new w3 _ [_, _, _]
      refine hK _ _ (kp hB6) ?_
      clear hK K hSd
      have hSd := kp hB6
      have hvr : w3.heap.size ≤ w3.heap.size := Nat.le_refl _
      refine nextH (i := 1) (by kernel_rfl) rfl (fun K hK => ?_)
      go_simp
      refine (HP.out _ (hr3.bel hSd.2)).mono ?_
      rintro e_ wx ⟨rfl, hbx⟩
      have hBl := hBl0.bel hbx
      have hS' := kp (bel_tr hSd.2 hSd.2.size hbx)
      try dsimp only
      refine hK _ _ hS' ?_
      clear hK K hSd hbx hBl0
      have hSd := hS'
      clear hS'
      refine wpAnyH_take (i := 5) (v := ?_) rfl (by kernel_rfl) (by kernel_rfl) (by kernel_rfl) (fun _ _ _ h => h) (Or.inl ⟨by kernel_rfl, ?_⟩) (by assumption) ?_
      rotate_left 1
      · (intro w hSw; obtain ⟨hk1, hk2⟩ := hSw; go_simp <;> with_reducible rfl)
      simp only [Act.put, List.getElem_toArray, List.getElem_cons_zero, List.getElem_cons_succ, List.setIfInBounds_toArray, List.set_cons_zero, List.set_cons_succ]
      have hbx := hSd.2
      obtain ⟨x0, x1, x2⟩ : wx.cell? ⟨w3.heap.size, 0, none⟩ = some (.bool false) ∧ wx.cell? ⟨w3.heap.size, 1, none⟩ = some (.int .i64 0) ∧ wx.cell? ⟨w3.heap.size, 2, none⟩ = some (.int .i64 0) := ⟨hBl.cell 0, hBl.cell 1, hBl.cell 2⟩
      obtain ⟨f0, f1, f2⟩ : wx.frozen? ⟨w3.heap.size, 0, none⟩ = false ∧ wx.frozen? ⟨w3.heap.size, 1, none⟩ = false ∧ wx.frozen? ⟨w3.heap.size, 2, none⟩ = false := ⟨hBl.frozen 0, hBl.frozen 1, hBl.frozen 2⟩
      refine nextH (i := 7) (by kernel_rfl) rfl (fun K hK => ?_)
      go_simp
      obtain ⟨WE, hWE⟩ : ∃ WE, ((wx.setCell ⟨w3.heap.size, 0, none⟩ (.bool true)).setCell ⟨w3.heap.size, 1, none⟩ (.int .i64 (P : Int))).setCell ⟨w3.heap.size, 2, none⟩ (.int .i64 H) = WE := ⟨_, rfl⟩
      rw [hWE]
      have hE : Blk WE (w3.heap.size) 48 [.bool true, .int .i64 (P : Int), .int .i64 H] := by rw [← hWE]; exact ((hBl.set_ 0 _).set_ 1 _).set_ 2 _
      have hbE : Below w3.heap.size w3 WE := by rw [← hWE]; exact ((hbx.setCell hvr _).setCell hvr _).setCell hvr _
      clear hWE x0 x1 x2 f0 f1 f2 hBl
      refine hK _ _ (kp hbE) ?_
      clear hK K
      refine wpAnyH_done (by kernel_rfl) ?_ _
      go_wp2
      go_meet
      exact ⟨w3.heap.size, rfl, hE, hbE, hvr⟩
  obtain ⟨b, rfl, kb, hbb, hbge⟩ := hcut
  have hA1 := hA0.out
  clear hA0
  subst hA1
  have kS5 := kS3.bel hbb
  have kc5 := kc3.bel hbb
  have hr5 := hr3.bel hbb
  have hB5 : Below q w wc := hB3.trans (hbb.mono (by omega))
  have hbr := brdQ_bd hok H
  have zb5 := kb.lt
  have zS5 := kS5.lt
  have zq2b : q2 < b := by omega
  have zqb : q < b := by omega
  have hszc : w3.heap.size ≤ wc.heap.size := hbb.size
  clear hbb kS3 kc3 hr3 hB3 HP s0 s1 s2 s3 s4
  have s0 := kS5.cell 0; have s1 := kS5.cell 1; have s2 := kS5.cell 2; have s3 := kS5.cell 3; have s4 := kS5.cell 4; simp only [List.getElem?_cons_zero, List.getElem?_cons_succ] at s0 s1 s2 s3 s4
  obtain ⟨y0, y1, y2⟩ : wc.cell? ⟨b, 0, none⟩ = some (.bool true) ∧ wc.cell? ⟨b, 1, none⟩ = some (.int .i64 (P : Int)) ∧ wc.cell? ⟨b, 2, none⟩ = some (.int .i64 H) := ⟨kb.cell 0, kb.cell 1, kb.cell 2⟩
  have iP : (P : Int) ≤ (c : Int) := by omega
  have iP2 : (P : Int) ≤ (l.length : Int) := by omega
  have iP0 : 0 ≤ (P : Int) := by omega
  go_upto_region 6 with fail
  clear s0 s1 s2 s3 s4 kS5 hr5
  go_loopw [41] (fun i wr => ∃ k : Nat, k ≤ P ∧ i = .int .i64 k ∧ Below q w wr ∧ Blk wr q2 48 [.bool false, .int .i64 0, .int .i64 0] ∧ Blk wr b 48 [.bool true, .int .i64 (P : Int), .int .i64 (brdQ H (l.take k))]) (fun i _ => P - (intOf i).toNat)
  case atStart => exact ⟨0, Nat.zero_le _, rfl, hB5, kc5, by simpa [brdQ] using kb⟩
  case round =>
    clear y0 y1 y2 kb kc5 hB5
    obtain ⟨k, hk, rfl, hB, kc6, kb6⟩ := hrel
    have hrr := hr.below (w' := wr) hB (by omega)
    have hbd := hbr k (by omega)
    have zb6 := kb6.lt
    by_cases hlt : k < P
    · obtain ⟨b', off', e', hbl, z0, z1⟩ := hrr.g_at (show k < l.length by omega)
      injection e' with e'
      injection e' with eb eo
      subst eb eo
      have o := hok _ (List.getElem_mem (show k < l.length by omega))
      have HT : Hid (brdQ H (l.take (k + 1)) = brdQ H (l.take k) + (l[k]'(by omega)).1) := brdQ_take (by omega)
      generalize (l[k]'(by omega)) = g at z0 z1 o HT
      generalize brdQ H (l.take k) = m at kb6 hbd HT
      obtain ⟨ga, gb⟩ := g
      dsimp only at z0 z1 o HT
      obtain ⟨y0, y1, y2⟩ : wr.cell? ⟨b, 0, none⟩ = some (.bool true) ∧ wr.cell? ⟨b, 1, none⟩ = some (.int .i64 (P : Int)) ∧ wr.cell? ⟨b, 2, none⟩ = some (.int .i64 m) := ⟨kb6.cell 0, kb6.cell 1, kb6.cell 2⟩
      have f2 := kb6.frozen 2
      have hBn : Below q w ((wr.setCell ⟨b, 2, none⟩ (.int .i64 (m + ga))).alloc (.cells #[.int .i64 ga, .int .i64 gb] 79)) := (hB.setCell (by show q ≤ b; omega) _).alloc (by simp; omega) _
      have kbn : Blk ((wr.setCell ⟨b, 2, none⟩ (.int .i64 (m + ga))).alloc (.cells #[.int .i64 ga, .int .i64 gb] 79)) b 48 [.bool true, .int .i64 (P : Int), .int .i64 (m + ga)] := (kb6.set_ 2 _).bel (alloc_bel _ _)
      have kcn : Blk ((wr.setCell ⟨b, 2, none⟩ (.int .i64 (m + ga))).alloc (.cells #[.int .i64 ga, .int .i64 gb] 79)) q2 48 [.bool false, .int .i64 0, .int .i64 0] := (kc6.far (by show q2 ≠ b; omega) _).bel (alloc_bel _ _)
      have HB3 := hide (show _ ∧ _ ∧ _ from ⟨hBn, kcn, kbn⟩)
      clear hBn kbn kcn kb6 kc6 hB hr hrr
      go_wp2
      go_roundw
      case rel => exact ⟨k + 1, by omega, by go_num, HB3.out.1, HB3.out.2.1, by rw [HT.out]; exact HB3.out.2.2⟩
      case measure => simp [intOf]; omega
    · obtain rfl : k = P := by omega
      generalize brdQ H (l.take k) = m at kb6 hbd HR
      obtain ⟨y0, y1, y2⟩ : wr.cell? ⟨b, 0, none⟩ = some (.bool true) ∧ wr.cell? ⟨b, 1, none⟩ = some (.int .i64 (k : Int)) ∧ wr.cell? ⟨b, 2, none⟩ = some (.int .i64 m) := ⟨kb6.cell 0, kb6.cell 1, kb6.cell 2⟩
      obtain ⟨x0, x1, x2⟩ : wr.cell? ⟨q2, 0, none⟩ = some (.bool false) ∧ wr.cell? ⟨q2, 1, none⟩ = some (.int .i64 0) ∧ wr.cell? ⟨q2, 2, none⟩ = some (.int .i64 0) := ⟨kc6.cell 0, kc6.cell 1, kc6.cell 2⟩
      obtain ⟨f0, f1, f2⟩ : wr.frozen? ⟨q2, 0, none⟩ = false ∧ wr.frozen? ⟨q2, 1, none⟩ = false ∧ wr.frozen? ⟨q2, 2, none⟩ = false := ⟨kc6.frozen 0, kc6.frozen 1, kc6.frozen 2⟩
      have zc6 := kc6.lt
      go_wp2
      obtain ⟨WE, hWE⟩ : ∃ WE, ((wr.setCell ⟨q2, 0, none⟩ (.bool true)).setCell ⟨q2, 1, none⟩ (.int .i64 (k))).setCell ⟨q2, 2, none⟩ (.int .i64 (m)) = WE := ⟨_, rfl⟩
      rw [hWE]
      have hE : Blk WE q2 48 [.bool true, .int .i64 (k), .int .i64 (m)] := by rw [← hWE]; exact ((kc6.set_ 0 _).set_ 1 _).set_ 2 _
      have hqq : q ≤ q2 := by omega
      have hBE : Below q w WE := by rw [← hWE]; exact ((hB.setCell hqq _).setCell hqq _).setCell hqq _
      clear hWE
      have g0 := hE.cell 0; have g1 := hE.cell 1; have g2 := hE.cell 2; simp only [List.getElem?_cons_zero, List.getElem?_cons_succ] at g0 g1 g2
      exact bodyPost_ret (v := .tuple #[.agg #[.bool true, .int .i64 (k), .int .i64 (m)], .int .i64 (0)]) (by simp [results, Try.results30, go_sem, g0, g1, g2]; try rfl) rfl ⟨by rw [HR.out]; try rfl, by first | exact hBE | (rw [hq]; exact hBE)⟩
theorem apexOf_c (H f n d : Int) (A : Option Addr) (c : Nat) (l : List G) (w : World) (hr : Rd w A (gs l)) (hl : l.length ≤ 1000) (hc : l.length ≤ c) (g1 : -9223372036854775808 ≤ n) (g2 : n ≤ 9223372036854775807) (g3 : d ≤ 9223372036854775807) :
    Calls Try.prog 30 #[.agg #[.int .i64 H, .slice A l.length c], .int .i64 f, .agg #[.int .i64 n, .int .i64 d]] w fun r w' => r = .returned (.tuple #[.agg #[.bool (apxQ H f n d l).1.1, .int .i64 (apxQ H f n d l).1.2.1, .int .i64 (apxQ H f n d l).1.2.2], .int .i64 (apxQ H f n d l).2]) ∧ Below w.heap.size w w' := by
  by_cases he : rayE H f n d l = 0
  · by_cases hp : pasN f n d l = l.length
    · exact apexOf_esc H f n d A c l w hr he hp
    · exact apexOf_ok H f n d A c l w hr hc he hp
  · exact apexOf_bad H f n d A c l w hr hl g1 g2 g3 he
end Go.Proofs.Ytkcjiejdjdcbeaa
