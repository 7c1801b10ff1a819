/- Contracts: the errors of a skip; the skip of a frequency, whole. -/
import Derived.Test.YtkcjiejdjdcbeaaRy24
set_option linter.unusedSimpArgs false
set_option linter.unusedVariables false
set_option linter.unusedSimpArgs false
set_option linter.unusedVariables false
namespace Go.Proofs.Ytkcjiejdjdcbeaa
open Go.RowKit
set_option maxRecDepth 100000
attribute [local go_sem] Oper.semAt_some

set_option maxHeartbeats 4000000 in
theorem skipOf_bad (H f M : Int) (A : Option Addr) (c : Nat) (l : List G) (w : World) (hr : Rd w A (gs l)) (hl : l.length ≤ 1000) (he : skpE H f M l ≠ 0) :
    Calls Try.prog 50 #[.agg #[.int .i64 H, .slice A l.length c], .int .i64 f, .int .i64 M] w fun r w' => r = .returned (.tuple #[.agg #[.int .i64 0, .int .i64 0, .int .i64 0], .int .i64 (skpE H f M l)]) ∧ Below w.heap.size w w' := by
  have HS := hide (fun W (h : Rd W A (gs l)) => skyError_c H A c l W h hl)
  have HF := hide (fun W => frequencyError_c f W)
  have HG := hide (fun W => gridError_c M W)
  have HE : Hid (skpE H f M l = firstE [(skyE H l).2, freqE f, gridE M]) := rfl
  generalize skpE H f M l = e at HE he ⊢
  generalize (skyE H l).2 = es at HS HE
  generalize hfq : freqE f = ef at HE
  rw [hfq] at HF
  generalize hgq : gridE M = eg at HE
  rw [hgq] at HG
  have e1 : (e != 0) = true := by simpa using he
  clear hfq hgq he
  obtain ⟨q, hq⟩ : ∃ q, w.heap.size = q := ⟨_, rfl⟩
  obtain ⟨q1, hq1⟩ : ∃ q1, q + 1 = q1 := ⟨_, rfl⟩
  obtain ⟨Wa, hWa⟩ : ∃ Wa, w.alloc (.cells #[.int .i64 H, .slice A l.length c] 24) = Wa := ⟨_, rfl⟩
  have ba : Below w.heap.size w Wa := by rw [← hWa]; exact alloc_bel _ _
  have sa : Wa.heap.size = q1 := by rw [← hWa, ← hq1, ← hq]; simp
  have ka : Blk Wa q 24 [.int .i64 H, .slice A l.length c] := by rw [← hWa, ← hq]; exact Blk.new w _ [_, _]
  obtain ⟨W, hWb⟩ : ∃ W, Wa.alloc (.cells #[.int .i64 0, .int .i64 0, .int .i64 0] 87) = W := ⟨_, rfl⟩
  have bb : Below Wa.heap.size Wa W := by rw [← hWb]; exact alloc_bel _ _
  have k2 : Blk W q1 87 [.int .i64 0, .int .i64 0, .int .i64 0] := by rw [← hWb, ← sa]; exact Blk.new Wa _ [_, _, _]
  have hABC : (w.alloc (.cells #[.int .i64 H, .slice A l.length c] 24)).alloc (.cells #[.int .i64 0, .int .i64 0, .int .i64 0] 87) = W := by rw [hWa, hWb]
  have HW := hide hABC
  have k1 := ka.bel bb
  have hrW := (hr.bel ba).bel bb
  have hB : Below q w W := by
    rw [hq] at ba
    rw [sa] at bb
    exact ba.trans (bb.mono (by omega))
  have z1 : q < W.heap.size := k1.lt
  have z2 : q1 < W.heap.size := k2.lt
  have hlow := hr.low
  rw [hq] at hlow
  clear hABC hWa hWb ba bb ka sa
  have s0 := k1.cell 0; have s1 := k1.cell 1; simp only [List.getElem?_cons_zero, List.getElem?_cons_succ] at s0 s1
  refine calls_marks 5 Try.func50 rfl ?_
  simp only [Try.ntmps50, List.size_toArray, List.length_cons, List.length_nil, Nat.reduceAdd, Nat.reduceSub, Array.replicate_succ, Array.replicate_zero, List.push_toArray, List.append_toArray, List.nil_append, List.cons_append]
  go_upto_region 1 with fail
  try simp only [World.size_alloc, hq, hq1]
  rw [HW.out]
  go_upto_region 2 with (first
    | (go_at_call 95; refine (HS.out _ hrW).mono ?_; rintro e_ w1 ⟨rfl, hb1⟩)
    | (go_at_call 98; refine (HF.out _).mono ?_; rintro e_ w_ ⟨rfl, rfl⟩)
    | (go_at_call 120; refine (HG.out _).mono ?_; rintro e_ w_ ⟨rfl, rfl⟩)
    | (go_at_call 90; refine (firstError_3 _ _ _ _).mono ?_; rintro e_ w_ ⟨rfl, rfl⟩))
  rw [← HE.out]
  obtain ⟨Wd, hWd⟩ : ∃ Wd, w1.alloc (.cells #[.int .i64 es, .int .i64 ef, .int .i64 eg] 29) = Wd := ⟨_, rfl⟩
  have hbd : Below W.heap.size W Wd := by rw [← hWd]; exact bel_alloc hb1 hb1.size _
  rw [hWd]
  have d1 := k1.bel hbd
  have d2 := k2.bel hbd
  have hrd := hrW.bel hbd
  have hBd : Below q w Wd := hB.trans (hbd.mono (by omega))
  have zd : q1 < Wd.heap.size := d2.lt
  have zd0 : q < Wd.heap.size := d1.lt
  clear hWd hbd hb1 s0 s1 k1 k2 hrW hB HS HF HG HE HW z1 z2
  have s0 := d1.cell 0; have s1 := d1.cell 1; simp only [List.getElem?_cons_zero, List.getElem?_cons_succ] at s0 s1
  have x0 := d2.cell 0; have x1 := d2.cell 1; have x2 := d2.cell 2; simp only [List.getElem?_cons_zero, List.getElem?_cons_succ] at x0 x1 x2
  obtain ⟨j0, j1, j2⟩ : Wd.frozen? ⟨q1, 0, none⟩ = false ∧ Wd.frozen? ⟨q1, 1, none⟩ = false ∧ Wd.frozen? ⟨q1, 2, none⟩ = false := ⟨d2.frozen 0, d2.frozen 1, d2.frozen 2⟩
  go_wp2
  obtain ⟨WE, hWE⟩ : ∃ WE, ((Wd.setCell ⟨q1, 0, none⟩ (.int .i64 0)).setCell ⟨q1, 1, none⟩ (.int .i64 0)).setCell ⟨q1, 2, none⟩ (.int .i64 0) = WE := ⟨_, rfl⟩
  rw [hWE]
  have hE : Blk WE q1 87 [.int .i64 0, .int .i64 0, .int .i64 0] := by rw [← hWE]; exact ((d2.set_ 0 _).set_ 1 _).set_ 2 _
  have hqq : q ≤ q1 := by omega
  have hBE : Below q w WE := by rw [← hWE]; exact ((hBd.setCell hqq _).setCell hqq _).setCell hqq _
  clear hWE
  have g0 := hE.cell 0; have g1 := hE.cell 1; have g2 := hE.cell 2; simp only [List.getElem?_cons_zero, List.getElem?_cons_succ] at g0 g1 g2
  exact ⟨.tuple #[.agg #[.int .i64 0, .int .i64 0, .int .i64 0], .int .i64 e], by simp [results, Try.results50, go_sem, g0, g1, g2]; try rfl, rfl, by first | exact hBE | (rw [hq]; exact hBE)⟩
/-- The skip of a frequency, and its error. -/
def skpQ (H f g : Int) (l : List G) : (Int × Int × Int) × Int :=
  if skpE H f g l ≠ 0 then ((0, 0, 0), skpE H f g l) else ((skAll H f g.toNat l (List.range g.toNat)).2, errIf (!(skAll H f g.toNat l (List.range g.toNat)).1) 12)
theorem skipOf_c (H f g : Int) (A : Option Addr) (c : Nat) (l : List G) (w : World) (hr : Rd w A (gs l)) (hl : l.length ≤ 1000) (hc : l.length ≤ c) :
    Calls Try.prog 50 #[.agg #[.int .i64 H, .slice A l.length c], .int .i64 f, .int .i64 g] w fun r w' => r = .returned (.tuple #[.agg #[.int .i64 (skpQ H f g l).1.1, .int .i64 (skpQ H f g l).1.2.1, .int .i64 (skpQ H f g l).1.2.2], .int .i64 (skpQ H f g l).2]) ∧ Below w.heap.size w w' := by
  by_cases he : skpE H f g l = 0
  · have hg : 1 ≤ g := by
      have h := he
      unfold skpE at h
      rw [firstE_zero, firstE_zero, firstE_zero] at h
      have h3 := h.2.2.1
      unfold gridE at h3
      rw [errIf_none (by decide)] at h3
      exact (outB_false.1 h3).1
    obtain ⟨M, rfl⟩ : ∃ M : Nat, g = (M : Int) := ⟨g.toNat, by omega⟩
    have e : skpQ H f M l = ((skAll H f M l (List.range M)).2, errIf (!(skAll H f M l (List.range M)).1) 12) := by
      unfold skpQ
      rw [if_neg (by rw [he]; simp), Int.toNat_natCast]
    rw [e]
    exact skipOf_ok H f M A c l w hr hc he
  · have e : skpQ H f g l = ((0, 0, 0), skpE H f g l) := by unfold skpQ; rw [if_pos he]
    rw [e]
    exact skipOf_bad H f g A c l w hr hl he
end Go.Proofs.Ytkcjiejdjdcbeaa
