/- Contracts: the answers for all launches of a task. -/
import Derived.Test.YtkcjiejdjdcbeaaRy24
import Derived.Test.YtkcjiejdjdcbeaaRy17
import Derived.Test.YtkcjiejdjdcbeaaInv
set_option linter.unusedSimpArgs false
set_option linter.unusedVariables false
set_option linter.unusedSimpArgs false
set_option linter.unusedVariables false
namespace Go.Proofs.Ytkcjiejdjdcbeaa
open Go.RowKit
set_option maxRecDepth 100000
attribute [local go_sem] Oper.semAt_some

theorem launch_gcd {k M : Nat} (hk : k < M) : Int.gcd (redQ (k : Int) M).1 (redQ (k : Int) M).2 = 1 := by
  unfold redQ
  exact Int.gcd_ediv_gcd_ediv_gcd (Nat.pos_of_ne_zero (by intro h; have := (Int.gcd_eq_zero_iff.1 h).2; omega))
/-- The answer for one launch of a grid; those for all. -/
def anK (H f : Int) (M : Nat) (lo hi : Int) (l : List G) (k : Nat) : Int := ansQ H f (redQ (k : Int) M).1 (redQ (k : Int) M).2 l lo hi
def ansL (H f : Int) (M : Nat) (lo hi : Int) (l : List G) : List Int := (List.range M).map (anK H f M lo hi l)
theorem zeros_set (F : Nat → Int) (pre : List Nat) (M k : Nat) (hk : k = pre.length) (hM : k < M) : (pre.map F ++ List.replicate (M - pre.length) 0).set k (F k) = (pre ++ [k]).map F ++ List.replicate (M - (pre ++ [k]).length) 0 := by
  subst hk
  have e : M - pre.length = (M - (pre ++ [pre.length]).length) + 1 := by simp; omega
  rw [e, List.replicate_succ, List.map_append, List.set_append_right _ _ (by simp)]
  simp
theorem Try.infoN5 : (Try.prog.info? 3).map (fun i => (i.zero, i.size, i.bytes)) = some (some (.int .i64 0), 1, 8) := by kernel_rfl
theorem ints_zeros5 (n : Nat) : ints (List.replicate n 0) = List.replicate n (.int .i64 0) := by simp [ints]
theorem makeInts (n : Nat) (hn : n ≤ 1000) (W : World) : (Instr.makeSlice 71 (.int .i64 (n : Int)) (.int .i64 (n : Int))).run Try.prog W = .ok (.slice (some ⟨W.heap.size, 0, none⟩) n n) (W.alloc (.cells (ints (List.replicate n 0)).toArray 3)) := by
  obtain ⟨i0, hi, iz0, iz1, iz2⟩ := info_parts Try.infoN5
  have h1 := run_make_rowN (P := Try.prog) 71 3 i0 _ Try.underlying71 hi iz0 .i64 .i64 n n (Nat.le_refl _) (by rw [iz2]; omega) (by omega) W
  have h2 := madeCells_one (.int .i64 0) rfl n
  rw [iz1] at h1
  rw [h1]
  congr 3
  rw [ints_zeros5, ← h2]

set_option maxHeartbeats 8000000 in
theorem answersFor_c (H f : Int) (M : Nat) (lo hi : Int) (fs : Value) (A : Option Addr) (c : Nat) (l : List G) (w : World) (hr : Rd w A (gs l)) (hc : l.length ≤ c) (H0 : 1 ≤ H) (H1 : H ≤ 500) (l0 : 1 ≤ l.length) (l1 : l.length ≤ 12) (hok : OkS l) (f0 : 1 ≤ f) (f1 : f ≤ 3000) (M0 : 1 ≤ M) (M1 : M ≤ 100) :
    Calls Try.prog 125 #[.agg #[.int .i64 H, .slice A l.length c], .agg #[.int .i64 (M : Int), .int .i64 lo, .int .i64 hi, fs], .int .i64 f] w fun r w' => (∃ g : Nat, r = .returned (.slice (some ⟨g, 0, none⟩) M M) ∧ Blk w' g 3 (ints (ansL H f M lo hi l)) ∧ w.heap.size ≤ g) ∧ Below w.heap.size w w' := by
  have HMK := hide (makeInts M (by omega))
  obtain ⟨q, hq⟩ : ∃ q, w.heap.size = q := ⟨_, rfl⟩
  obtain ⟨p1, hp1⟩ : ∃ p1, q + 1 = p1 := ⟨_, rfl⟩
  obtain ⟨p2, hp2⟩ : ∃ p2, p1 + 1 = p2 := ⟨_, rfl⟩
  obtain ⟨p3, hp3⟩ : ∃ p3, p2 + 1 = p3 := ⟨_, rfl⟩
  obtain ⟨p4, hp4⟩ : ∃ p4, p3 + 1 = p4 := ⟨_, rfl⟩
  obtain ⟨p5, hp5⟩ : ∃ p5, p4 + 1 = p5 := ⟨_, rfl⟩
  obtain ⟨p6, hp6⟩ : ∃ p6, p5 + 1 = p6 := ⟨_, rfl⟩
  obtain ⟨Wa, hWa⟩ : ∃ Wa, w.alloc (.cells #[.int .i64 H, .slice A l.length c] 24) = Wa := ⟨_, rfl⟩
  obtain ⟨Wb, hWb⟩ : ∃ Wb, Wa.alloc (.cells #[.int .i64 (M : Int), .int .i64 lo, .int .i64 hi, fs] 95) = Wb := ⟨_, rfl⟩
  obtain ⟨Wc, hWc⟩ : ∃ Wc, Wb.alloc (.cells (ints (List.replicate M 0)).toArray 3) = Wc := ⟨_, rfl⟩
  obtain ⟨Wd, hWd⟩ : ∃ Wd, Wc.alloc (.cells #[.slice (some ⟨p2, 0, none⟩) M M] 71) = Wd := ⟨_, rfl⟩
  obtain ⟨We, hWe⟩ : ∃ We, Wd.alloc (.cells #[.int .i64 H, .slice A l.length c] 24) = We := ⟨_, rfl⟩
  obtain ⟨Wf, hWf⟩ : ∃ Wf, We.alloc (.cells #[.int .i64 f] 3) = Wf := ⟨_, rfl⟩
  obtain ⟨Wg, hWg⟩ : ∃ Wg, Wf.alloc (.cells #[.int .i64 (M : Int)] 3) = Wg := ⟨_, rfl⟩
  have ba : Below w.heap.size w Wa := by rw [← hWa]; exact alloc_bel _ _
  have bb : Below Wa.heap.size Wa Wb := by rw [← hWb]; exact alloc_bel _ _
  have bc : Below Wb.heap.size Wb Wc := by rw [← hWc]; exact alloc_bel _ _
  have bd : Below Wc.heap.size Wc Wd := by rw [← hWd]; exact alloc_bel _ _
  have be : Below Wd.heap.size Wd We := by rw [← hWe]; exact alloc_bel _ _
  have bf : Below We.heap.size We Wf := by rw [← hWf]; exact alloc_bel _ _
  have bg : Below Wf.heap.size Wf Wg := by rw [← hWg]; exact alloc_bel _ _
  have sa : Wa.heap.size = p1 := by rw [← hWa, ← hp1, ← hq]; simp
  have sb : Wb.heap.size = p2 := by rw [← hWb, ← hp2, ← sa]; simp
  have sc : Wc.heap.size = p3 := by rw [← hWc, ← hp3, ← sb]; simp
  have sd : Wd.heap.size = p4 := by rw [← hWd, ← hp4, ← sc]; simp
  have se : We.heap.size = p5 := by rw [← hWe, ← hp5, ← sd]; simp
  have sf : Wf.heap.size = p6 := by rw [← hWf, ← hp6, ← se]; simp
  have sg : Wg.heap.size = p6 + 1 := by rw [← hWg, ← sf]; simp
  have ka : Blk Wa q 24 [.int .i64 H, .slice A l.length c] := by rw [← hWa, ← hq]; exact Blk.new w _ [_, _]
  have kb : Blk Wb p1 95 [.int .i64 (M : Int), .int .i64 lo, .int .i64 hi, fs] := by rw [← hWb, ← sa]; exact Blk.new Wa _ [_, _, _, _]
  have kc : Blk Wc p2 3 (ints (List.replicate M 0)) := by rw [← hWc, ← sb]; exact Blk.new Wb _ _
  have kd : Blk Wd p3 71 [.slice (some ⟨p2, 0, none⟩) M M] := by rw [← hWd, ← sc]; exact Blk.new Wc _ [_]
  have ke : Blk We p4 24 [.int .i64 H, .slice A l.length c] := by rw [← hWe, ← sd]; exact Blk.new Wd _ [_, _]
  have kf : Blk Wf p5 3 [.int .i64 f] := by rw [← hWf, ← se]; exact Blk.new We _ [_]
  have kg : Blk Wg p6 3 [.int .i64 (M : Int)] := by rw [← hWg, ← sf]; exact Blk.new Wf _ [_]
  have hAB : (w.alloc (.cells #[.int .i64 H, .slice A l.length c] 24)).alloc (.cells #[.int .i64 (M : Int), .int .i64 lo, .int .i64 hi, fs] 95) = Wb := by rw [hWa, hWb]
  have hCD : (Wb.alloc (.cells (ints (List.replicate M 0)).toArray 3)).alloc (.cells #[.slice (some ⟨p2, 0, none⟩) M M] 71) = Wd := by rw [hWc, hWd]
  have hEG : ((Wd.alloc (.cells #[.int .i64 H, .slice A l.length c] 24)).alloc (.cells #[.int .i64 f] 3)).alloc (.cells #[.int .i64 (M : Int)] 3) = Wg := by rw [hWe, hWf, hWg]
  have HAB := hide hAB
  have HCD := hide hCD
  have HSO : Hid (Calls Try.prog 123 #[.agg #[.int .i64 H, .slice A l.length c], .int .i64 f, .int .i64 (M : Int)] Wd fun r w' => r = .returned (.func (.func 165) #[] #[.pointer (some ⟨p6, 0, none⟩), .pointer (some ⟨p5, 0, none⟩), .pointer (some ⟨p4, 0, none⟩)]) ∧ Wg = w') := by
    have := shotsOf_c H f (M : Int) A l.length c Wd
    rw [sd, hp5, hp6, hEG] at this
    exact this
  have HSB : Hid (Wb.heap.size = p2) := sb
  have HSC : Hid (Wc.heap.size = p3) := sc
  have ka2 := ka.bel bb
  have ka4 := (ka2.bel bc).bel bd
  have kb2 := kb
  have kb4 := (kb.bel bc).bel bd
  have kT := ((kb4.bel be).bel bf).bel bg
  have kA := ((((kc.bel bd).bel be).bel bf).bel bg)
  have kD4 := kd
  have k3 := ((kd.bel be).bel bf).bel bg
  have e3' := (ke.bel bf).bel bg
  have e4' := kf.bel bg
  have hri := ((((((hr.bel ba).bel bb).bel bc).bel bd).bel be).bel bf).bel bg
  have hBg : Below q w Wg := by
    rw [hq] at ba
    exact (((((ba.trans (bb.mono (by omega))).trans (bc.mono (by omega))).trans (bd.mono (by omega))).trans (be.mono (by omega))).trans (bf.mono (by omega))).trans (bg.mono (by omega))
  have hlow := hr.low
  rw [hq] at hlow
  have zq2 : p1 < Wb.heap.size := kb2.lt
  have zq0 : q < Wb.heap.size := ka2.lt
  have zq4 : p1 < Wd.heap.size := kb4.lt
  have zq5 : q < Wd.heap.size := ka4.lt
  have zq6 : p3 < Wd.heap.size := kD4.lt
  clear hAB hCD hEG hWa hWb hWc hWd hWe hWf hWg ba bb bc bd be bf bg ka kb kc kd ke kf sa sb sc sd se sf
  have g0 := kb2.cell 0
  simp only [List.getElem?_cons_zero] at g0
  have iM : 0 ≤ (M : Int) := by omega
  refine calls_marks 5 Try.func125 rfl ?_
  simp only [Try.ntmps125, List.size_toArray, List.length_cons, List.length_nil, Nat.reduceAdd, Nat.reduceSub, Array.replicate_succ, Array.replicate_zero, List.push_toArray, List.append_toArray, List.nil_append, List.cons_append]
  go_upto_region 1 with fail
  try simp only [World.size_alloc, hq, hp1]
  rw [HAB.out]
  have HMK2 := HMK.out Wb
  rw [HSB.out] at HMK2
  go_upto_region 2 with fail
  try simp only [World.size_alloc, HSB.out, hp3]
  rw [HCD.out]
  clear HCD HAB HMK HMK2 HSC ka2 kb2 g0 zq2 zq0
  have s0 := ka4.cell 0; have s1 := ka4.cell 1; simp only [List.getElem?_cons_zero, List.getElem?_cons_succ] at s0 s1
  have g0 := kb4.cell 0
  simp only [List.getElem?_cons_zero] at g0
  go_wp2_with (go_at_call 123; refine HSO.out.mono ?_; rintro e_ w_ ⟨rfl, rfl⟩)
  clear HSO s0 s1 g0 zq4 zq5 zq6 ka4 kb4 kD4 HSB
  obtain ⟨S, hS⟩ : ∃ S : Nat → Prop, ∀ j, S j ↔ j < p6 + 1 ∧ j ≠ p2 := ⟨fun j => j < p6 + 1 ∧ j ≠ p2, fun _ => Iff.rfl⟩
  have hSi : ∀ j, S j → j < Wg.heap.size := fun j hj => by have := (hS j).1 hj; omega
  have HIt := shots_iter 4 (by omega) p6 p5 p4 H f M M0 (by omega) A l.length c S ((hS _).2 (by omega)) ((hS _).2 (by omega)) ((hS _).2 (by omega)) Wg kg e4' e3'
  obtain ⟨ansT, hansT⟩ : ∃ ansT : List Nat → List Int, ∀ pre, ansT pre = pre.map (anK H f M lo hi l) ++ List.replicate (M - pre.length) 0 := ⟨_, fun _ => rfl⟩
  refine wpIn_wide.1 (range_law5 (n := 5) (α := Nat) (m := 0) (fun a k a₁ W' => ∃ bb : Nat, a₁ = { tmps := ((((a.tmps.set! 18 (.int .i64 (k : Int))).set! 19 (.agg #[.int .i64 H, .slice A l.length c, .int .i64 f, .int .i64 (redQ (k : Int) M).1, .int .i64 (redQ (k : Int) M).2])).set! 8 (.int .i64 (k : Int))).set! 9 (.pointer (some ⟨bb, 0, none⟩))), defers := [] } ∧ p6 + 1 ≤ bb ∧ Blk W' bb 159 [.int .i64 H, .slice A l.length c, .int .i64 f, .int .i64 (redQ (k : Int) M).1, .int .i64 (redQ (k : Int) M).2])
    rfl Try.call165 HIt hSi (fun x args W h => by rw [h]; rfl)
    (fun pre W' => Blk W' p2 3 (ints (ansT pre)) ∧ Keep S Wg W')
    ?hI ?hI' ?hI4 ⟨by rw [hansT]; simpa using kA, Keep.refl _ _⟩ ?hZ ?assign ?body ?done)
  case hI =>
    rintro pre W1 W2 ⟨h1, h4⟩ hb
    exact ⟨h1.bel hb, h4.trans (Keep.of_below hb fun j hj => by have h5 := h4.size; have := hSi j hj; omega)⟩
  case hI' =>
    rintro pre W1 l' o o' ⟨h1, h4⟩ hB hl' ho
    exact ⟨(World.putObj_heap_other (by omega)).trans h1, h4.trans (Keep.putObj _ _ _ fun hj => by have := (hS l').1 hj; omega)⟩
  case hI4 =>
    rintro pre W1 W2 ⟨h1, h4⟩ ha
    exact ⟨(ha.block p2 (by omega)).trans h1, h4.trans ⟨ha.os, ha.tape, ha.output, Nat.le_of_eq ha.size.symm, fun k hk => ha.block k (by have := (hS k).1 hk; omega)⟩⟩
  case hZ =>
    rintro j a W1 l' o o' ⟨bb, t1, t2, t3⟩ hl' ho hc
    exact ⟨bb, t1, t2, (World.putObj_heap_other (fun e => by subst e; rw [show W1.heap[bb]? = _ from t3] at ho; cases ho; cases hc)).trans t3⟩
  case assign =>
    rintro l' k args W1 K rfl hge hK
    gi_wp2
    exact hK _ _ ((Below.refl _ _).alloc (Nat.le_refl _) _) ⟨W1.heap.size, rfl, by omega, Blk.new W1 _ [_, _, _, _, _]⟩
  case body =>
    rintro l' pre k rest a₁ W1 hxs ⟨hAB, hkp⟩ ⟨bb, rfl, hbb, hBB⟩ hge
    obtain ⟨hkp1, hkM⟩ := range_at hxs
    obtain ⟨r1, r2, r3, r4⟩ := launch_rng hkM M1
    have hr1 : Rd W1 A (gs l) := hri.keepS (fun hx b off e => (hS _).2 (by have := hlow hx b off e; omega)) hkp
    have hT : Blk W1 p1 95 [.int .i64 (M : Int), .int .i64 lo, .int .i64 hi, fs] := (hkp.block p1 ((hS _).2 (by omega))).trans kT
    have hB3 : Blk W1 p3 71 [.slice (some ⟨p2, 0, none⟩) M M] := (hkp.block p3 ((hS _).2 (by omega))).trans k3
    have HAN := hide (fun W (h : Rd W A (gs l)) => answerFor_c H f (redQ (k : Int) M).1 (redQ (k : Int) M).2 lo hi A c l W h hc ⟨H0, H1, l0, l1, hok, f0, f1, r1, r2, r3, r4, launch_gcd hkM⟩)
    have HSET : Hid ((ansT pre).set k (anK H f M lo hi l k) = ansT (pre ++ [k])) := by show _ = _; rw [hansT, hansT]; exact zeros_set _ _ _ _ hkp1 hkM
    have HLEN : Hid ((ansT pre).length = M) := by show _ = _; rw [hansT]; simp; omega
    have HANK : Hid (anK H f M lo hi l k = ansQ H f (redQ (k : Int) M).1 (redQ (k : Int) M).2 l lo hi) := rfl
    rw [← HANK.out] at HAN
    generalize anK H f M lo hi l k = an at HAN HSET
    have hnS : ¬ S p2 := fun h => ((hS p2).1 h).2 rfl
    have hzb := hBB.lt
    simp only [Array.set!_eq_setIfInBounds, List.setIfInBounds_toArray, List.set_cons_zero, List.set_cons_succ]
    clear HANK HIt kg e4' e3' kA kT k3 hkp1 hxs hlow hri
    generalize (redQ (k : Int) M).1 = n at *
    generalize (redQ (k : Int) M).2 = d at *
    obtain ⟨PD, hPDd⟩ : ∃ PD : World → Prop, PD = fun w => KeepsOthers W1 w ∧ Keep S W1 w ∧ Blk w p2 3 (ints (ansT (pre ++ [k]))) := ⟨_, rfl⟩
    gi_upto_region 5 with fail
    refine region_inv (by kernel_rfl) (fun listed a w => ∃ (b0 b1 b2 b3 b4 b5 b6 b7 : Bool) (y0 y1 y2 y3 y4 y5 y6 : Value), listed = #[b0, b1, b2, b3, b4, b5, b6, b7] ∧ a = { tmps := #[.agg #[.int .i64 H, .slice A l.length c], .agg #[.int .i64 (M : Int), .int .i64 lo, .int .i64 hi, fs], .int .i64 f, .pointer (some ⟨q, 0, none⟩), .pointer (some ⟨p1, 0, none⟩), undef, .slice none 0 0, .pointer (some ⟨p3, 0, none⟩), .int .i64 (k : Int), .pointer (some ⟨bb, 0, none⟩), .pointer (some ⟨p1, 0, none⟩), .int .i64 (M : Int), .slice (some ⟨p2, 0, none⟩) M M, .agg #[.int .i64 H, .slice A l.length c], .int .i64 f, .pointer (some ⟨p1, 0, none⟩), .int .i64 (M : Int), .func (.func 165) #[] #[.pointer (some ⟨p6, 0, none⟩), .pointer (some ⟨p5, 0, none⟩), .pointer (some ⟨p4, 0, none⟩)], .int .i64 (k : Int), .agg #[.int .i64 H, .slice A l.length c, .int .i64 f, .int .i64 n, .int .i64 d], y0, y1, y2, y3, y4, y5, y6, undef], defers := [] } ∧ (b0 = true → y0 = .slice (some ⟨p2, 0, none⟩) M M) ∧ (b1 = true → y1 = .int .i64 (k : Int)) ∧ (b2 = true → y2 = .agg #[.int .i64 H, .slice A l.length c, .int .i64 f, .int .i64 n, .int .i64 d]) ∧ (b3 = true → y3 = .pointer (some ⟨p1, 1, none⟩)) ∧ (b4 = true → b3 = true ∧ y4 = .agg #[.int .i64 lo, .int .i64 hi]) ∧ (b5 = true → b2 = true ∧ b4 = true ∧ y5 = .int .i64 an) ∧ (b6 = true → b0 = true ∧ b1 = true ∧ y6 = .pointer (some ⟨p2, k, none⟩)) ∧ (b7 = true → b5 = true ∧ b6 = true) ∧ (b7 = false → Below W1.heap.size W1 w) ∧ (b7 = true → PD w)) ?step ?fin ?start
    case start =>
      refine ⟨false, false, false, false, false, false, false, false, undef, undef, undef, undef, undef, undef, undef, rfl, rfl, ?_⟩
      simp
      exact (Below.refl _ _).drew
    case fin =>
      rintro listed a w ⟨b0, b1, b2, b3, b4, b5, b6, b7, y0, y1, y2, y3, y4, y5, y6, rfl, rfl, h0, h1, h2, h3, h4, h5, h6, h7, hA, hB⟩ hrdy
      have hb7 : b7 = true := by
        clear h0 h1 h2 h3 h4 h5 h6 h7 hA hB
        revert b0 b1 b2 b3 b4 b5 b6 b7
        decide +kernel
      have hPDw := hB hb7
      rw [hPDd] at hPDw
      obtain ⟨hk1, hk2, hk3⟩ := hPDw
      gi_wp2
      exact ⟨hk1, hk2, fun j o h1 h2 _ => by omega, hk3, hkp.trans hk2⟩
    case step =>
      rintro listed a w i ⟨b0, b1, b2, b3, b4, b5, b6, b7, y0, y1, y2, y3, y4, y5, y6, rfl, rfl, h0, h1, h2, h3, h4, h5, h6, h7, hA, hB⟩ hri
      obtain ⟨hnot, oj, hoj, hall⟩ := mem_ready.1 hri
      have hi9 : i < 8 := by have := (Array.getElem?_eq_some_iff.1 hoj).1; simpa using this
      have hcase : i = 0 ∨ i = 1 ∨ i = 2 ∨ i = 3 ∨ i = 4 ∨ i = 5 ∨ i = 6 ∨ i = 7 := by omega
      clear hi9 hri
      rcases hcase with rfl | rfl | rfl | rfl | rfl | rfl | rfl | rfl
      all_goals
        have hoj' := Option.some.inj hoj
        subst hoj'
      · --<T0
        obtain rfl : b0 = false := by simpa using hnot
        have e7 : b7 = false := by cases b7 with | false => rfl | true => exact absurd ((h6 (h7 rfl).2).1) (by simp)
        have hbw := hA e7
        have xc := (hB3.bel hbw).cell 0
        simp only [List.getElem?_cons_zero] at xc
        replace h0 := hide h0
        replace h1 := hide h1
        replace h2 := hide h2
        replace h3 := hide h3
        replace h4 := hide h4
        replace h5 := hide h5
        replace h6 := hide h6
        replace h7 := hide h7
        replace hA := hide hA
        replace hB := hide hB
        refine wpOpIn_do rfl rfl (fun K' hK => ?_)
        go_simp
        refine hK _ _ ?_
        exact ⟨true, b1, b2, b3, b4, b5, b6, b7, .slice (some ⟨p2, 0, none⟩) M M, y1, y2, y3, y4, y5, y6, rfl, rfl, (fun _ => rfl), (h1.out), (h2.out), (h3.out), (h4.out), (h5.out), (fun h => ⟨rfl, (h6.out h).2.1, (h6.out h).2.2⟩), (h7.out), (hA.out), (hB.out)⟩
        -->T0
      · --<T1
        obtain rfl : b1 = false := by simpa using hnot
        have e7 : b7 = false := by cases b7 with | false => rfl | true => exact absurd ((h6 (h7 rfl).2).2.1) (by simp)
        have hbw := hA e7
        replace h0 := hide h0
        replace h1 := hide h1
        replace h2 := hide h2
        replace h3 := hide h3
        replace h4 := hide h4
        replace h5 := hide h5
        replace h6 := hide h6
        replace h7 := hide h7
        replace hA := hide hA
        replace hB := hide hB
        refine wpOpIn_do rfl rfl (fun K' hK => ?_)
        go_simp
        refine hK _ _ ?_
        exact ⟨b0, true, b2, b3, b4, b5, b6, b7, y0, .int .i64 (k : Int), y2, y3, y4, y5, y6, rfl, rfl, (h0.out), (fun _ => rfl), (h2.out), (h3.out), (h4.out), (h5.out), (fun h => ⟨(h6.out h).1, rfl, (h6.out h).2.2⟩), (h7.out), (hA.out), (hB.out)⟩
        -->T1
      · --<T2
        obtain rfl : b2 = false := by simpa using hnot
        have e7 : b7 = false := by cases b7 with | false => rfl | true => exact absurd ((h5 (h7 rfl).1).1) (by simp)
        have hbw := hA e7
        obtain ⟨u0, u1, u2, u3, u4⟩ := blk_five (hBB.bel hbw)
        replace h0 := hide h0
        replace h1 := hide h1
        replace h2 := hide h2
        replace h3 := hide h3
        replace h4 := hide h4
        replace h5 := hide h5
        replace h6 := hide h6
        replace h7 := hide h7
        replace hA := hide hA
        replace hB := hide hB
        refine wpOpIn_do rfl rfl (fun K' hK => ?_)
        go_simp
        refine hK _ _ ?_
        exact ⟨b0, b1, true, b3, b4, b5, b6, b7, y0, y1, .agg #[.int .i64 H, .slice A l.length c, .int .i64 f, .int .i64 n, .int .i64 d], y3, y4, y5, y6, rfl, rfl, (h0.out), (h1.out), (fun _ => rfl), (h3.out), (h4.out), (fun h => ⟨rfl, (h5.out h).2.1, (h5.out h).2.2⟩), (h6.out), (h7.out), (hA.out), (hB.out)⟩
        -->T2
      · --<T3
        obtain rfl : b3 = false := by simpa using hnot
        have e7 : b7 = false := by cases b7 with | false => rfl | true => exact absurd ((h4 (h5 (h7 rfl).1).2.1).1) (by simp)
        have hbw := hA e7
        have zp1 : p1 < w.heap.size := (hT.bel hbw).lt
        replace h0 := hide h0
        replace h1 := hide h1
        replace h2 := hide h2
        replace h3 := hide h3
        replace h4 := hide h4
        replace h5 := hide h5
        replace h6 := hide h6
        replace h7 := hide h7
        replace hA := hide hA
        replace hB := hide hB
        refine wpOpIn_do rfl rfl (fun K' hK => ?_)
        go_simp
        refine hK _ _ ?_
        exact ⟨b0, b1, b2, true, b4, b5, b6, b7, y0, y1, y2, .pointer (some ⟨p1, 1, none⟩), y4, y5, y6, rfl, rfl, (h0.out), (h1.out), (h2.out), (fun _ => rfl), (fun h => ⟨rfl, (h4.out h).2⟩), (h5.out), (h6.out), (h7.out), (hA.out), (hB.out)⟩
        -->T3
      · --<T4
        obtain rfl : b4 = false := by simpa using hnot
        have d3 : b3 = true := by simpa using hall { on := 3, ground := Ground.data } (by simp) rfl
        have hy := h3 d3
        subst hy
        have e7 : b7 = false := by cases b7 with | false => rfl | true => exact absurd ((h5 (h7 rfl).1).2.1) (by simp)
        have hbw := hA e7
        have hTw := hT.bel hbw
        have t1 := hTw.cell 1
        have t2 := hTw.cell 2
        simp only [List.getElem?_cons_zero, List.getElem?_cons_succ] at t1 t2
        replace h0 := hide h0
        replace h1 := hide h1
        replace h2 := hide h2
        replace h3 := hide h3
        replace h4 := hide h4
        replace h5 := hide h5
        replace h6 := hide h6
        replace h7 := hide h7
        replace hA := hide hA
        replace hB := hide hB
        refine wpOpIn_do rfl rfl (fun K' hK => ?_)
        go_simp
        refine hK _ _ ?_
        exact ⟨b0, b1, b2, b3, true, b5, b6, b7, y0, y1, y2, .pointer (some ⟨p1, 1, none⟩), .agg #[.int .i64 lo, .int .i64 hi], y5, y6, rfl, rfl, (h0.out), (h1.out), (h2.out), (h3.out), (fun _ => ⟨d3, rfl⟩), (fun h => ⟨(h5.out h).1, rfl, (h5.out h).2.2⟩), (h6.out), (h7.out), (hA.out), (hB.out)⟩
        -->T4
      · --<T5
        obtain rfl : b5 = false := by simpa using hnot
        have d2 : b2 = true := by simpa using hall { on := 2, ground := Ground.data } (by simp) rfl
        have d4 : b4 = true := by simpa using hall { on := 4, ground := Ground.data } (by simp) rfl
        have hy := h2 d2
        subst hy
        have hy := (h4 d4).2
        subst hy
        have e7 : b7 = false := by cases b7 with | false => rfl | true => exact absurd ((h7 rfl).1) (by simp)
        have hbw := hA e7
        replace h0 := hide h0
        replace h1 := hide h1
        replace h2 := hide h2
        replace h3 := hide h3
        replace h4 := hide h4
        replace h5 := hide h5
        replace h6 := hide h6
        replace h7 := hide h7
        replace hA := hide hA
        replace hB := hide hB
        refine wpOpIn_do rfl rfl (fun K' hK => ?_)
        go_simp
        refine ⟨trivial, ?_⟩
        gi_at_call 168
        refine (CallsIn.mono (CallsIn.inRound l' (callsIn_wide.2 (HAN.out _ (hr1.bel hbw)))) ?_)
        rintro e w5 ⟨rfl, hb5⟩
        try dsimp only
        refine hK _ _ ?_
        exact ⟨b0, b1, b2, b3, b4, true, b6, b7, y0, y1, .agg #[.int .i64 H, .slice A l.length c, .int .i64 f, .int .i64 n, .int .i64 d], y3, .agg #[.int .i64 lo, .int .i64 hi], .int .i64 an, y6, rfl, rfl, (h0.out), (h1.out), (h2.out), (h3.out), (h4.out), (fun _ => ⟨d2, d4, rfl⟩), (h6.out), (fun h => ⟨rfl, (h7.out h).2⟩), (fun _ => bel_tr hbw hbw.size hb5), (fun h => by rw [e7] at h; cases h)⟩
        -->T5
      · --<T6
        obtain rfl : b6 = false := by simpa using hnot
        have d0 : b0 = true := by simpa using hall { on := 0, ground := Ground.data } (by simp) rfl
        have d1 : b1 = true := by simpa using hall { on := 1, ground := Ground.data } (by simp) rfl
        have hy := h0 d0
        subst hy
        have hy := h1 d1
        subst hy
        have e7 : b7 = false := by cases b7 with | false => rfl | true => exact absurd ((h7 rfl).2) (by simp)
        have hbw := hA e7
        have ik : (k : Int) < (M : Int) := by omega
        replace h0 := hide h0
        replace h1 := hide h1
        replace h2 := hide h2
        replace h3 := hide h3
        replace h4 := hide h4
        replace h5 := hide h5
        replace h6 := hide h6
        replace h7 := hide h7
        replace hA := hide hA
        replace hB := hide hB
        refine wpOpIn_do rfl rfl (fun K' hK => ?_)
        go_simp
        refine hK _ _ ?_
        exact ⟨b0, b1, b2, b3, b4, b5, true, b7, .slice (some ⟨p2, 0, none⟩) M M, .int .i64 (k : Int), y2, y3, y4, y5, .pointer (some ⟨p2, k, none⟩), rfl, rfl, (h0.out), (h1.out), (h2.out), (h3.out), (h4.out), (h5.out), (fun _ => ⟨d0, d1, rfl⟩), (fun h => ⟨(h7.out h).1, rfl⟩), (hA.out), (hB.out)⟩
        -->T6
      · --<T7
        obtain rfl : b7 = false := by simpa using hnot
        have d5 : b5 = true := by simpa using hall { on := 5, ground := Ground.data } (by simp) rfl
        have d6 : b6 = true := by simpa using hall { on := 6, ground := Ground.data } (by simp) rfl
        have hy := (h5 d5).2.2
        subst hy
        have hy := (h6 d6).2.2
        subst hy
        have hbw := hA rfl
        have hAw : Blk w p2 3 (ints (ansT pre)) := hAB.bel hbw
        have s1 := hAw.cell k
        rw [ints_at (by rw [HLEN.out]; exact hkM)] at s1
        have s2 := hAw.frozen k
        have zp2 := hAw.lt
        replace h0 := hide h0
        replace h1 := hide h1
        replace h2 := hide h2
        replace h3 := hide h3
        replace h4 := hide h4
        replace h5 := hide h5
        replace h6 := hide h6
        replace h7 := hide h7
        replace hA := hide hA
        replace hB := hide hB
        refine wpOpIn_do rfl rfl (fun K' hK => ?_)
        go_simp
        refine hK _ _ ?_
        have hP : PD (w.setCell ⟨p2, k, none⟩ (.int .i64 an)) := by
          rw [hPDd]
          have hks : Keep S w (w.setCell ⟨p2, k, none⟩ (.int .i64 an)) := Keep.setCell _ ⟨p2, k, none⟩ _ hnS
          refine ⟨(others_of_below hbw).trans (KeepsOthers.setCell _ _ _), (Keep.of_below hbw fun j hj => by have h5 := hkp.size; have := hSi j hj; omega).trans hks, ?_⟩
          have h9 := hAw.set_ k (.int .i64 an)
          rw [← HSET.out]
          simpa [ints, List.map_set] using h9
        exact ⟨b0, b1, b2, b3, b4, b5, b6, true, y0, y1, y2, y3, y4, .int .i64 an, .pointer (some ⟨p2, k, none⟩), rfl, rfl, (h0.out), (h1.out), (h2.out), (h3.out), (h4.out), (h5.out), (h6.out), (fun _ => ⟨d5, d6⟩), (fun h => by cases h), (fun _ => hP)⟩
        -->T7
  case done =>
    rintro D W1 hD ⟨hAB, hkp⟩ hKd
    have hB3 : Blk W1 p3 71 [.slice (some ⟨p2, 0, none⟩) M M] := (hkp.block p3 ((hS _).2 (by omega))).trans k3
    have hzD := hB3.lt
    have x0 := hB3.cell 0
    simp only [List.getElem?_cons_zero] at x0
    have HAT : Hid (ansT (List.range M) = ansL H f M lo hi l) := by show _ = _; rw [hansT]; simp [ansL]
    have hkw : Below q Wg W1 := ⟨hkp.os, hkp.tape, hkp.output, hkp.size, fun j hj => hkp.block j ((hS _).2 (by omega))⟩
    clear HIt kg e4' e3' kA kT k3 hlow hri
    go_wp2
    obtain ⟨W3, hW3⟩ : ∃ W3, W1.putObj D (.deferred none) = W3 := ⟨_, rfl⟩
    refine ⟨by simp, .inl ⟨_, _, rfl, run_takeDeferred hKd, ?_⟩⟩
    rw [hW3]
    have hA3 : Blk W3 p2 3 (ints (ansT (List.range M))) := by rw [← hW3]; exact (World.putObj_heap_other (by omega)).trans hAB
    have hb3 : Below q W1 W3 := by
      rw [← hW3]
      exact ⟨rfl, rfl, rfl, by simp, fun j hj => World.putObj_heap_other (by omega)⟩
    clear hW3
    rw [HAT.out] at hA3
    exact ⟨.slice (some ⟨p2, 0, none⟩) M M, by simp [results, Try.results125, go_sem]; try rfl, ⟨_, rfl, hA3, by omega⟩, by first | exact (hBg.trans hkw).trans hb3 | (rw [hq]; exact (hBg.trans hkw).trans hb3)⟩
end Go.Proofs.Ytkcjiejdjdcbeaa
