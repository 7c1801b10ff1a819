/- Contracts: the launches of a grid as an iterator; the skip of a frequency. -/
import Derived.Test.YtkcjiejdjdcbeaaRy18
set_option linter.unusedSimpArgs false
set_option linter.unusedVariables false
set_option linter.unusedSimpArgs false
set_option linter.unusedVariables false
namespace Go.Proofs.Ytkcjiejdjdcbeaa
open Go.RowKit
set_option maxRecDepth 100000
attribute [local go_sem] Oper.semAt_some



theorem shotsOf_c (H f g : Int) (A : Option Addr) (L c : Nat) (w : World) :
    Calls Try.prog 123 #[.agg #[.int .i64 H, .slice A L c], .int .i64 f, .int .i64 g] w fun r w' => r = .returned (.func (.func 165) #[] #[.pointer (some ⟨w.heap.size + 1 + 1, 0, none⟩), .pointer (some ⟨w.heap.size + 1, 0, none⟩), .pointer (some ⟨w.heap.size, 0, none⟩)]) ∧ ((w.alloc (.cells #[.int .i64 H, .slice A L c] 24)).alloc (.cells #[.int .i64 f] 3)).alloc (.cells #[.int .i64 g] 3) = w' := by
  go_enter Try.func123, Try.ntmps123
  go_wp2
  go_ret
  exact ⟨rfl, rfl⟩
/-- The least distance so far: whether there is one, its ends, and the launch of the upper one. -/
def skStep (H f : Int) (M : Nat) (l : List G) (s : Bool × Int × Int × Int) (k : Nat) : Bool × Int × Int × Int :=
  if pasN f (redQ k M).1 (redQ k M).2 l = l.length then s
  else
    let g := grdQ H f (redQ k M).1 (redQ k M).2 l
    let s1 := if s.1 = true then s else (true, g.1, g.2, (k : Int))
    (true, min s1.2.1 g.1, if g.2 < s1.2.2.1 then g.2 else s1.2.2.1, if g.2 < s1.2.2.1 then (k : Int) else s1.2.2.2)
def skAll (H f : Int) (M : Nat) (l : List G) (ks : List Nat) : Bool × Int × Int × Int := ks.foldl (skStep H f M l) (false, 0, 0, 0)
def skpE (H f g : Int) (l : List G) : Int := firstE [(skyE H l).2, freqE f, gridE g]
theorem launch_rng {k M : Nat} (hk : k < M) (hM : M ≤ 100) : 1 ≤ (redQ (k : Int) M).2 ∧ (redQ (k : Int) M).2 ≤ 100 ∧ 0 ≤ (redQ (k : Int) M).1 ∧ (redQ (k : Int) M).1 < (redQ (k : Int) M).2 := by
  have a := redQ_den (k : Int) (M : Int) (by omega)
  have b := redQ_nonneg (k : Int) (M : Int) (by omega)
  have c := redQ_cross (k : Int) (M : Int)
  refine ⟨a.1, by omega, b, ?_⟩
  generalize (redQ (k : Int) M).1 = n at b c ⊢
  generalize (redQ (k : Int) M).2 = d at a c ⊢
  rcases Int.lt_or_le n d with h | h
  · exact h
  · have h1 := Int.mul_le_mul_of_nonneg_right h (show (0 : Int) ≤ M by omega)
    have h2 := Int.mul_lt_mul_of_pos_right (show (k : Int) < M by omega) (show (0 : Int) < d by omega)
    rw [Int.mul_comm (M : Int) d] at h2
    omega
theorem blk_other {w : World} {b q o : Nat} {t : TypeId} {cs : List Value} {u : Value} (h : Blk w b t cs) (hb : b ≠ q) : Blk (w.setCell ⟨q, o, none⟩ u) b t cs := (Below.heap_setCell _ _ _ _ hb).trans h
set_option maxHeartbeats 8000000 in
theorem skipOf_ok (H f : Int) (M : Nat) (A : Option Addr) (c : Nat) (l : List G) (w : World) (hr : Rd w A (gs l)) (hc : l.length ≤ c) (he : skpE H f M l = 0) :
    Calls Try.prog 50 #[.agg #[.int .i64 H, .slice A l.length c], .int .i64 f, .int .i64 (M : Int)] w fun r w' => r = .returned (.tuple #[.agg #[.int .i64 (skAll H f M l (List.range M)).2.1, .int .i64 (skAll H f M l (List.range M)).2.2.1, .int .i64 (skAll H f M l (List.range M)).2.2.2], .int .i64 (errIf (!(skAll H f M l (List.range M)).1) 12)]) ∧ Below w.heap.size w w' := by
  have hz : (1 ≤ H ∧ H ≤ 500 ∧ 1 ≤ l.length ∧ l.length ≤ 12 ∧ OkS l) ∧ (1 ≤ f ∧ f ≤ 3000) ∧ 1 ≤ M ∧ M ≤ 100 := by
    unfold skpE at he
    rw [firstE_zero, firstE_zero, firstE_zero] at he
    have h3 := he.2.2.1
    unfold gridE at h3
    rw [errIf_none (by decide)] at h3
    have h4 := outB_false.1 h3
    exact ⟨skyE_zero he.1, freqE_zero he.2.1, by omega, by omega⟩
  obtain ⟨⟨H0, H1, l0, l1, hok⟩, ⟨f0, f1⟩, M0, M1⟩ := hz
  have HS := hide (fun W (h : Rd W A (gs l)) => skyError_c H A c l W h (by omega))
  have HF := hide (fun W => frequencyError_c f W)
  have HG := hide (fun W => gridError_c (M : Int) W)
  have HE : Hid (0 = firstE [(skyE H l).2, freqE f, gridE M]) := he.symm
  generalize (skyE H l).2 = es at HS HE
  generalize hfq : freqE f = ef at HE
  rw [hfq] at HF
  generalize hgq : gridE (M : Int) = eg at HE
  rw [hgq] at HG
  clear hfq hgq he
  obtain ⟨q, hq⟩ : ∃ q, w.heap.size = q := ⟨_, rfl⟩
  obtain ⟨q1, hq1⟩ : ∃ q1, q + 1 = q1 := ⟨_, rfl⟩
  obtain ⟨Wa, hWa⟩ : ∃ Wa, w.alloc (.cells #[.int .i64 H, .slice A l.length c] 24) = Wa := ⟨_, rfl⟩
  have ba : Below w.heap.size w Wa := by rw [← hWa]; exact alloc_bel _ _
  have sa : Wa.heap.size = q1 := by rw [← hWa, ← hq1, ← hq]; simp
  have ka : Blk Wa q 24 [.int .i64 H, .slice A l.length c] := by rw [← hWa, ← hq]; exact Blk.new w _ [_, _]
  obtain ⟨W, hWb⟩ : ∃ W, Wa.alloc (.cells #[.int .i64 0, .int .i64 0, .int .i64 0] 87) = W := ⟨_, rfl⟩
  have bb : Below Wa.heap.size Wa W := by rw [← hWb]; exact alloc_bel _ _
  have k2 : Blk W q1 87 [.int .i64 0, .int .i64 0, .int .i64 0] := by rw [← hWb, ← sa]; exact Blk.new Wa _ [_, _, _]
  have hABC : (w.alloc (.cells #[.int .i64 H, .slice A l.length c] 24)).alloc (.cells #[.int .i64 0, .int .i64 0, .int .i64 0] 87) = W := by rw [hWa, hWb]
  have HW := hide hABC
  have k1 := ka.bel bb
  have hrW := (hr.bel ba).bel bb
  have hB : Below q w W := by
    rw [hq] at ba
    rw [sa] at bb
    exact ba.trans (bb.mono (by omega))
  have z1 : q < W.heap.size := k1.lt
  have z2 : q1 < W.heap.size := k2.lt
  have hlow := hr.low
  rw [hq] at hlow
  clear hABC hWa hWb ba bb ka sa
  have s0 := k1.cell 0; have s1 := k1.cell 1; simp only [List.getElem?_cons_zero, List.getElem?_cons_succ] at s0 s1
  refine calls_marks 5 Try.func50 rfl ?_
  simp only [Try.ntmps50, List.size_toArray, List.length_cons, List.length_nil, Nat.reduceAdd, Nat.reduceSub, Array.replicate_succ, Array.replicate_zero, List.push_toArray, List.append_toArray, List.nil_append, List.cons_append]
  go_upto_region 1 with fail
  try simp only [World.size_alloc, hq, hq1]
  rw [HW.out]
  go_upto_region 2 with (first
    | (go_at_call 95; refine (HS.out _ hrW).mono ?_; rintro e_ w1 ⟨rfl, hb1⟩)
    | (go_at_call 98; refine (HF.out _).mono ?_; rintro e_ w_ ⟨rfl, rfl⟩)
    | (go_at_call 120; refine (HG.out _).mono ?_; rintro e_ w_ ⟨rfl, rfl⟩)
    | (go_at_call 90; refine (firstError_3 _ _ _ _).mono ?_; rintro e_ w_ ⟨rfl, rfl⟩))
  rw [← HE.out]
  obtain ⟨Wd, hWd⟩ : ∃ Wd, w1.alloc (.cells #[.int .i64 es, .int .i64 ef, .int .i64 eg] 29) = Wd := ⟨_, rfl⟩
  have hbd : Below W.heap.size W Wd := by rw [← hWd]; exact bel_alloc hb1 hb1.size _
  rw [hWd]
  have d1 := k1.bel hbd
  have d2 := k2.bel hbd
  have hrd := hrW.bel hbd
  have hBd : Below q w Wd := hB.trans (hbd.mono (by omega))
  have zd : q1 < Wd.heap.size := d2.lt
  have zd0 : q < Wd.heap.size := d1.lt
  clear hWd hbd hb1 s0 s1 k1 k2 hrW hB HS HF HG HE HW z1 z2
  have s0 := d1.cell 0; have s1 := d1.cell 1; simp only [List.getElem?_cons_zero, List.getElem?_cons_succ] at s0 s1
  obtain ⟨v, hv⟩ : ∃ v, Wd.heap.size = v := ⟨_, rfl⟩
  obtain ⟨v1, hv1⟩ : ∃ v1, v + 1 = v1 := ⟨_, rfl⟩
  obtain ⟨v2, hv2⟩ : ∃ v2, v1 + 1 = v2 := ⟨_, rfl⟩
  obtain ⟨v3, hv3⟩ : ∃ v3, v2 + 1 = v3 := ⟨_, rfl⟩
  obtain ⟨v4, hv4⟩ : ∃ v4, v3 + 1 = v4 := ⟨_, rfl⟩
  obtain ⟨We, hWe⟩ : ∃ We, Wd.alloc (.cells #[.int .i64 0, .int .i64 0, .int .i64 0] 87) = We := ⟨_, rfl⟩
  obtain ⟨Wf, hWf⟩ : ∃ Wf, We.alloc (.cells #[.bool false] 4) = Wf := ⟨_, rfl⟩
  obtain ⟨Wg, hWg⟩ : ∃ Wg, Wf.alloc (.cells #[.int .i64 H, .slice A l.length c] 24) = Wg := ⟨_, rfl⟩
  obtain ⟨Wh, hWh⟩ : ∃ Wh, Wg.alloc (.cells #[.int .i64 f] 3) = Wh := ⟨_, rfl⟩
  obtain ⟨Wi, hWi⟩ : ∃ Wi, Wh.alloc (.cells #[.int .i64 (M : Int)] 3) = Wi := ⟨_, rfl⟩
  have be : Below Wd.heap.size Wd We := by rw [← hWe]; exact alloc_bel _ _
  have bf : Below We.heap.size We Wf := by rw [← hWf]; exact alloc_bel _ _
  have bg : Below Wf.heap.size Wf Wg := by rw [← hWg]; exact alloc_bel _ _
  have bh : Below Wg.heap.size Wg Wh := by rw [← hWh]; exact alloc_bel _ _
  have bi : Below Wh.heap.size Wh Wi := by rw [← hWi]; exact alloc_bel _ _
  have se : We.heap.size = v1 := by rw [← hWe, ← hv1, ← hv]; simp
  have sf : Wf.heap.size = v2 := by rw [← hWf, ← hv2, ← se]; simp
  have sg : Wg.heap.size = v3 := by rw [← hWg, ← hv3, ← sf]; simp
  have sh : Wh.heap.size = v4 := by rw [← hWh, ← hv4, ← sg]; simp
  have si : Wi.heap.size = v4 + 1 := by rw [← hWi, ← sh]; simp
  have ke : Blk We v 87 [.int .i64 0, .int .i64 0, .int .i64 0] := by rw [← hWe, ← hv]; exact Blk.new Wd _ [_, _, _]
  have kf : Blk Wf v1 4 [.bool false] := by rw [← hWf, ← se]; exact Blk.new We _ [_]
  have kg : Blk Wg v2 24 [.int .i64 H, .slice A l.length c] := by rw [← hWg, ← sf]; exact Blk.new Wf _ [_, _]
  have kh : Blk Wh v3 3 [.int .i64 f] := by rw [← hWh, ← sg]; exact Blk.new Wg _ [_]
  have ki : Blk Wi v4 3 [.int .i64 (M : Int)] := by rw [← hWi, ← sh]; exact Blk.new Wh _ [_]
  have hEF : (Wd.alloc (.cells #[.int .i64 0, .int .i64 0, .int .i64 0] 87)).alloc (.cells #[.bool false] 4) = Wf := by rw [hWe, hWf]
  have hGI : ((Wf.alloc (.cells #[.int .i64 H, .slice A l.length c] 24)).alloc (.cells #[.int .i64 f] 3)).alloc (.cells #[.int .i64 (M : Int)] 3) = Wi := by rw [hWg, hWh, hWi]
  have HEF := hide hEF
  have HSO : Hid (Calls Try.prog 123 #[.agg #[.int .i64 H, .slice A l.length c], .int .i64 f, .int .i64 (M : Int)] Wf fun r w' => r = .returned (.func (.func 165) #[] #[.pointer (some ⟨v4, 0, none⟩), .pointer (some ⟨v3, 0, none⟩), .pointer (some ⟨v2, 0, none⟩)]) ∧ Wi = w') := by
    have := shotsOf_c H f (M : Int) A l.length c Wf
    rw [sf, hv3, hv4, hGI] at this
    exact this
  have f1' := ((d1.bel be).bel bf)
  have f2' := (((((d2.bel be).bel bf).bel bg).bel bh).bel bi)
  have e1' := ((((ke.bel bf).bel bg).bel bh).bel bi)
  have e2' := (((kf.bel bg).bel bh).bel bi)
  have e3' := ((kg.bel bh).bel bi)
  have e4' := kh.bel bi
  have hri := ((((hrd.bel be).bel bf).bel bg).bel bh).bel bi
  have hBi : Below q w Wi := by
    have h1 := hBd.trans (be.mono (by omega))
    have h2 := h1.trans (bf.mono (by omega))
    have h3 := h2.trans (bg.mono (by omega))
    have h4 := h3.trans (bh.mono (by omega))
    exact h4.trans (bi.mono (by omega))
  have zq : q < Wf.heap.size := f1'.lt
  obtain ⟨x0, x1⟩ : Wf.cell? ⟨q, 0, none⟩ = some (.int .i64 H) ∧ Wf.cell? ⟨q, 1, none⟩ = some (.slice A l.length c) := ⟨f1'.cell 0, f1'.cell 1⟩
  clear hEF hGI hWe hWf hWg hWh hWi be bf bg bh bi ke kf kg kh d1 d2 hrd f1' sf sg sh s0 s1
  go_upto_region 6 with fail
  try simp only [World.size_alloc, hv, hv1]
  rw [HEF.out]
  go_wp2_with (go_at_call 123; refine HSO.out.mono ?_; rintro e_ w_ ⟨rfl, rfl⟩)
  clear HEF HSO x0 x1 zq
  obtain ⟨S, hS⟩ : ∃ S : Nat → Prop, ∀ j, S j ↔ j < v4 + 1 ∧ j ≠ v ∧ j ≠ v1 := ⟨fun j => j < v4 + 1 ∧ j ≠ v ∧ j ≠ v1, fun _ => Iff.rfl⟩
  have hSi : ∀ j, S j → j < Wi.heap.size := fun j hj => by have := (hS j).1 hj; omega
  have HIt := shots_iter 4 (by omega) v4 v3 v2 H f M M0 (by omega) A l.length c S ((hS _).2 (by omega)) ((hS _).2 (by omega)) ((hS _).2 (by omega)) Wi ki e4' e3'
  refine wpIn_wide.1 (range_law5 (n := 5) (α := Nat) (m := 0) (fun a k a₁ W' => ∃ bb : Nat, a₁ = { tmps := ((((a.tmps.set! 30 (.int .i64 (k : Int))).set! 31 (.agg #[.int .i64 H, .slice A l.length c, .int .i64 f, .int .i64 (redQ (k : Int) M).1, .int .i64 (redQ (k : Int) M).2])).set! 11 (.int .i64 (k : Int))).set! 12 (.pointer (some ⟨bb, 0, none⟩))), defers := [] } ∧ v4 + 1 ≤ bb ∧ Blk W' bb 159 [.int .i64 H, .slice A l.length c, .int .i64 f, .int .i64 (redQ (k : Int) M).1, .int .i64 (redQ (k : Int) M).2])
    rfl Try.call165 HIt hSi (fun x args W h => by rw [h]; rfl)
    (fun pre W' => Blk W' v 87 [.int .i64 (skAll H f M l pre).2.1, .int .i64 (skAll H f M l pre).2.2.1, .int .i64 (skAll H f M l pre).2.2.2] ∧ Blk W' v1 4 [.bool (skAll H f M l pre).1] ∧ Keep S Wi W')
    ?hI ?hI' ?hI4 ⟨e1', e2', Keep.refl _ _⟩ ?hZ ?assign ?body ?done)
  case hI =>
    rintro pre W1 W2 ⟨h1, h2, h4⟩ hb
    exact ⟨h1.bel hb, h2.bel hb, h4.trans (Keep.of_below hb fun j hj => by have h5 := h4.size; have := hSi j hj; omega)⟩
  case hI' =>
    rintro pre W1 l' o o' ⟨h1, h2, h4⟩ hB hl' ho
    exact ⟨(World.putObj_heap_other (by omega)).trans h1, (World.putObj_heap_other (by omega)).trans h2, h4.trans (Keep.putObj _ _ _ fun hj => by have := (hS l').1 hj; omega)⟩
  case hI4 =>
    rintro pre W1 W2 ⟨h1, h2, h4⟩ ha
    exact ⟨(ha.block v (by omega)).trans h1, (ha.block v1 (by omega)).trans h2, h4.trans ⟨ha.os, ha.tape, ha.output, Nat.le_of_eq ha.size.symm, fun k hk => ha.block k (by omega)⟩⟩
  case hZ =>
    rintro j a W1 l' o o' ⟨bb, t1, t2, t3⟩ hl' ho hc
    exact ⟨bb, t1, t2, (World.putObj_heap_other (fun e => by subst e; rw [show W1.heap[bb]? = _ from t3] at ho; cases ho; cases hc)).trans t3⟩
  case assign =>
    rintro l' k args W1 K rfl hge hK
    gi_wp2
    exact hK _ _ ((Below.refl _ _).alloc (Nat.le_refl _) _) ⟨W1.heap.size, rfl, by omega, Blk.new W1 _ [_, _, _, _, _]⟩
  case body =>
    rintro l' pre k rest a₁ W1 hxs ⟨hK1, hF1, hkp⟩ ⟨bb, rfl, hbb, hBB⟩ hge
    obtain ⟨hkp1, hkM⟩ := range_at hxs
    obtain ⟨r1, r2, r3, r4⟩ := launch_rng hkM M1
    have hr1 : Rd W1 A (gs l) := hri.keepS (fun hx b off e => (hS _).2 (by have := hlow hx b off e; omega)) hkp
    have HX := hide (fun W (h : Rd W A (gs l)) => escapes_c H f (redQ (k : Int) M).1 (redQ (k : Int) M).2 A c l W h (by omega) hok f0 f1 r3 (by omega) r1 r2)
    have HGD := hide (fun W (h : Rd W A (gs l)) => ground_c H f (redQ (k : Int) M).1 (redQ (k : Int) M).2 A c l W h (by omega) l0 hc hok (by omega) H1 f0 f1 r3 r4 r2)
    have HST : Hid (skAll H f M l (pre ++ [k]) = skStep H f M l (skAll H f M l pre) k) := by show _ = _; unfold skAll; rw [List.foldl_append]; rfl
    obtain ⟨st, hst⟩ : ∃ st, skAll H f M l pre = st := ⟨_, rfl⟩
    rw [hst] at hK1 hF1 HST
    obtain ⟨b0, s1, s2, s3⟩ := st
    dsimp only at hK1 hF1
    have hzb := hBB.lt
    have hzv := hK1.lt
    have hzv1 := hF1.lt
    simp only [Array.set!_eq_setIfInBounds, List.setIfInBounds_toArray, List.set_cons_zero, List.set_cons_succ]
    have HSKP : Hid (pasN f (redQ (k : Int) M).1 (redQ (k : Int) M).2 l = l.length → skAll H f M l (pre ++ [k]) = (b0, s1, s2, s3)) := fun h => by rw [HST.out]; unfold skStep; rw [if_pos h]
    have HGO : Hid (¬ pasN f (redQ (k : Int) M).1 (redQ (k : Int) M).2 l = l.length → skAll H f M l (pre ++ [k]) = (let g := grdQ H f (redQ (k : Int) M).1 (redQ (k : Int) M).2 l
      let u := if b0 = true then (b0, s1, s2, s3) else (true, g.1, g.2, (k : Int))
      (true, min u.2.1 g.1, if g.2 < u.2.2.1 then g.2 else u.2.2.1, if g.2 < u.2.2.1 then (k : Int) else u.2.2.2))) := fun h => by rw [HST.out]; unfold skStep; rw [if_neg h]
    clear HST hst hxs hkp1 HIt ki e4' e3' e1' e2' f2'
    generalize grdQ H f (redQ (k : Int) M).1 (redQ (k : Int) M).2 l = g at HGD HGO
    generalize pasN f (redQ (k : Int) M).1 (redQ (k : Int) M).2 l = pn at HX HSKP HGO
    generalize (redQ (k : Int) M).1 = n at *
    generalize (redQ (k : Int) M).2 = d at *
    obtain ⟨g1, g2⟩ := g
    dsimp only at HGD HGO
    have y0 := hBB.cell 0; have y1 := hBB.cell 1; have y2 := hBB.cell 2; have y3 := hBB.cell 3; have y4 := hBB.cell 4; simp only [List.getElem?_cons_zero, List.getElem?_cons_succ] at y0 y1 y2 y3 y4
    by_cases hp : pn = l.length
    · rw [decide_eq_true hp] at HX
      have HS2 := hide (HSKP.out hp)
      clear HSKP HGO hp HGD
      gi_wp2_with (refine ⟨trivial, ?_⟩; gi_at_call 106; refine (CallsIn.mono (CallsIn.inRound l' (callsIn_wide.2 (HX.out _ hr1))) ?_); rintro e_ w2 ⟨rfl, hb2⟩)
      have hks : Keep S W1 w2 := Keep.of_below hb2 fun j hj => by have h5 := hkp.size; have := hSi j hj; omega
      exact ⟨others_of_below hb2, hks, KeepI.below hb2, by rw [HS2.out]; exact hK1.bel hb2, by rw [HS2.out]; exact hF1.bel hb2, hkp.trans hks⟩
    · rw [decide_eq_false hp] at HX
      have HS2 := hide (HGO.out hp)
      clear HSKP HGO hp
      gi_upto_region 11 with (first
        | (refine ⟨trivial, ?_⟩; gi_at_call 106; refine (CallsIn.mono (CallsIn.inRound l' (callsIn_wide.2 (HX.out _ hr1))) ?_); rintro e_ w2 ⟨rfl, hb2⟩; have hB2 := hBB.bel hb2; obtain ⟨u0, u1, u2, u3, u4⟩ := blk_five hB2)
        | (refine ⟨trivial, ?_⟩; gi_at_call 109; refine (CallsIn.mono (CallsIn.inRound l' (callsIn_wide.2 (HGD.out _ (hr1.bel hb2)))) ?_); rintro e_ w3 ⟨rfl, hb3⟩))
      obtain ⟨zz, hzz⟩ : ∃ zz, w3.heap.size = zz := ⟨_, rfl⟩
      obtain ⟨W4, hW4⟩ : ∃ W4, w3.alloc (.cells #[.int .i64 g1, .int .i64 g2] 55) = W4 := ⟨_, rfl⟩
      have b4 : Below w3.heap.size w3 W4 := by rw [← hW4]; exact alloc_bel _ _
      have kZ : Blk W4 zz 55 [.int .i64 g1, .int .i64 g2] := by rw [← hW4, ← hzz]; exact Blk.new w3 _ [_, _]
      have kV := ((hK1.bel hb2).bel hb3).bel b4
      have kF := ((hF1.bel hb2).bel hb3).bel b4
      have h14 : Below W1.heap.size W1 W4 := bel_tr (bel_tr (Below.refl _ _) (Nat.le_refl _) hb2) (by have := hb2.size; omega) (bel_tr hb3 hb3.size b4)
      have hk4 : Keep S W1 W4 := Keep.of_below h14 fun j hj => by have h5 := hkp.size; have := hSi j hj; omega
      have ho4 : KeepsOthers W1 W4 := others_of_below h14
      have hnv : ¬ S v := fun h => ((hS v).1 h).2.1 rfl
      have hnv1 : ¬ S v1 := fun h => ((hS v1).1 h).2.2 rfl
      rw [hW4]
      try simp only [hzz]
      have hzz1 : v1 < zz := by have := hb2.size; have := hb3.size; omega
      clear hW4 b4 h14 hb2 hb3 hK1 hF1 hB2 u0 u1 u2 u3 u4 y0 y1 y2 y3 y4 hBB HX HGD hr1 hzz
      obtain ⟨p0, p1, p2⟩ : W4.cell? ⟨v, 0, none⟩ = _ ∧ W4.cell? ⟨v, 1, none⟩ = _ ∧ W4.cell? ⟨v, 2, none⟩ = _ := ⟨kV.cell 0, kV.cell 1, kV.cell 2⟩
      obtain ⟨j0, j1, j2⟩ : W4.frozen? ⟨v, 0, none⟩ = false ∧ W4.frozen? ⟨v, 1, none⟩ = false ∧ W4.frozen? ⟨v, 2, none⟩ = false := ⟨kV.frozen 0, kV.frozen 1, kV.frozen 2⟩
      have o0 := kF.cell 0
      have o1 := kF.frozen 0
      obtain ⟨z0, z1⟩ : W4.cell? ⟨zz, 0, none⟩ = _ ∧ W4.cell? ⟨zz, 1, none⟩ = _ := ⟨kZ.cell 0, kZ.cell 1⟩
      simp only [List.getElem?_cons_zero, List.getElem?_cons_succ] at p0 p1 p2 o0 z0 z1
      have zv : v < W4.heap.size := kV.lt
      have zv1 : v1 < W4.heap.size := kF.lt
      have zz0 : zz < W4.heap.size := kZ.lt
      cases b0
      · have HS3 : Hid (skAll H f M l (pre ++ [k]) = (true, min g1 g1, if g2 < g2 then g2 else g2, if g2 < g2 then (k : Int) else (k : Int))) := by
          show _ = _
          rw [HS2.out]
          simp
        clear HS2
        gi_upto_region 13 with fail
        obtain ⟨W5, hW5⟩ : ∃ W5, (((W4.setCell ⟨v, 0, none⟩ (.int .i64 g1)).setCell ⟨v, 1, none⟩ (.int .i64 g2)).setCell ⟨v, 2, none⟩ (.int .i64 (k : Int))).setCell ⟨v1, 0, none⟩ (.bool true) = W5 := ⟨_, rfl⟩
        rw [hW5]
        have kV5 : Blk W5 v 87 [.int .i64 g1, .int .i64 g2, .int .i64 (k : Int)] := by rw [← hW5]; exact blk_other (((kV.set_ 0 _).set_ 1 _).set_ 2 _) (by omega)
        have kF5 : Blk W5 v1 4 [.bool true] := by rw [← hW5]; exact (blk_other (blk_other (blk_other kF (by omega)) (by omega)) (by omega)).set_ 0 _
        have kZ5 : Blk W5 zz 55 [.int .i64 g1, .int .i64 g2] := by rw [← hW5]; exact blk_other (blk_other (blk_other (blk_other kZ (by omega)) (by omega)) (by omega)) (by omega)
        have hk5 : Keep S W1 W5 := by rw [← hW5]; exact (((hk4.trans (Keep.setCell _ ⟨v, 0, none⟩ _ hnv)).trans (Keep.setCell _ ⟨v, 1, none⟩ _ hnv)).trans (Keep.setCell _ ⟨v, 2, none⟩ _ hnv)).trans (Keep.setCell _ ⟨v1, 0, none⟩ _ hnv1)
        have ho5 : KeepsOthers W1 W5 := by rw [← hW5]; exact (((ho4.trans (KeepsOthers.setCell _ _ _)).trans (KeepsOthers.setCell _ _ _)).trans (KeepsOthers.setCell _ _ _)).trans (KeepsOthers.setCell _ _ _)
        clear hW5 p0 p1 p2 j0 j1 j2 o0 o1 z0 z1 zv zv1 zz0 kV kF kZ hk4 ho4
        obtain ⟨p0, p1, p2⟩ : W5.cell? ⟨v, 0, none⟩ = _ ∧ W5.cell? ⟨v, 1, none⟩ = _ ∧ W5.cell? ⟨v, 2, none⟩ = _ := ⟨kV5.cell 0, kV5.cell 1, kV5.cell 2⟩
        obtain ⟨j0, j1, j2⟩ : W5.frozen? ⟨v, 0, none⟩ = false ∧ W5.frozen? ⟨v, 1, none⟩ = false ∧ W5.frozen? ⟨v, 2, none⟩ = false := ⟨kV5.frozen 0, kV5.frozen 1, kV5.frozen 2⟩
        have o0 := kF5.cell 0
        have o1 := kF5.frozen 0
        obtain ⟨z0, z1⟩ : W5.cell? ⟨zz, 0, none⟩ = _ ∧ W5.cell? ⟨zz, 1, none⟩ = _ := ⟨kZ5.cell 0, kZ5.cell 1⟩
        simp only [List.getElem?_cons_zero, List.getElem?_cons_succ] at p0 p1 p2 o0 z0 z1
        have zv : v < W5.heap.size := kV5.lt
        have zv1 : v1 < W5.heap.size := kF5.lt
        have zz0 : zz < W5.heap.size := kZ5.lt
        replace HS3 := HS3.out
        have hm : ¬ g1 < g1 := by omega
        rw [show min g1 g1 = g1 by omega] at HS3
        gi_upto_region 14 with fail
        obtain ⟨W6, hW6⟩ : ∃ W6, W5.setCell ⟨v, 0, none⟩ (.int .i64 (g1)) = W6 := ⟨_, rfl⟩
        rw [hW6]
        have kV6 : Blk W6 v 87 [.int .i64 (g1), .int .i64 (g2), .int .i64 ((k : Int))] := by rw [← hW6]; exact kV5.set_ 0 _
        have kF6 : Blk W6 v1 4 [.bool true] := by rw [← hW6]; exact blk_other kF5 (by omega)
        have kZ6 : Blk W6 zz 55 [.int .i64 g1, .int .i64 g2] := by rw [← hW6]; exact blk_other kZ5 (by omega)
        have hk6 : Keep S W1 W6 := by rw [← hW6]; exact hk5.trans (Keep.setCell _ ⟨v, 0, none⟩ _ hnv)
        have ho6 : KeepsOthers W1 W6 := by rw [← hW6]; exact ho5.trans (KeepsOthers.setCell _ _ _)
        clear hW6 p0 p1 p2 j0 j1 j2 o0 o1 z0 z1 zv zv1 zz0 kV5 kF5 kZ5 hk5 ho5
        obtain ⟨p0, p1, p2⟩ : W6.cell? ⟨v, 0, none⟩ = _ ∧ W6.cell? ⟨v, 1, none⟩ = _ ∧ W6.cell? ⟨v, 2, none⟩ = _ := ⟨kV6.cell 0, kV6.cell 1, kV6.cell 2⟩
        obtain ⟨j0, j1, j2⟩ : W6.frozen? ⟨v, 0, none⟩ = false ∧ W6.frozen? ⟨v, 1, none⟩ = false ∧ W6.frozen? ⟨v, 2, none⟩ = false := ⟨kV6.frozen 0, kV6.frozen 1, kV6.frozen 2⟩
        have o0 := kF6.cell 0
        have o1 := kF6.frozen 0
        obtain ⟨z0, z1⟩ : W6.cell? ⟨zz, 0, none⟩ = _ ∧ W6.cell? ⟨zz, 1, none⟩ = _ := ⟨kZ6.cell 0, kZ6.cell 1⟩
        simp only [List.getElem?_cons_zero, List.getElem?_cons_succ] at p0 p1 p2 o0 z0 z1
        have zv : v < W6.heap.size := kV6.lt
        have zv1 : v1 < W6.heap.size := kF6.lt
        have zz0 : zz < W6.heap.size := kZ6.lt
        have hh : ¬ g2 < g2 := by omega
        · rw [if_neg hh, if_neg hh] at HS3
          have HS4 := hide HS3
          clear HS3
          gi_wp2
          exact ⟨ho6, hk6, fun j o h1 h2 _ => by omega, by rw [HS4.out]; exact kV6, by rw [HS4.out]; exact kF6, hkp.trans hk6⟩
      · have HS3 : Hid (skAll H f M l (pre ++ [k]) = (true, min s1 g1, if g2 < s2 then g2 else s2, if g2 < s2 then (k : Int) else s3)) := by
          show _ = _
          rw [HS2.out]
          simp
        clear HS2
        gi_upto_region 13 with fail
        replace HS3 := HS3.out
        by_cases hm : g1 < s1
        · rw [show min (s1) g1 = g1 by omega] at HS3
          gi_upto_region 14 with fail
          obtain ⟨W6, hW6⟩ : ∃ W6, W4.setCell ⟨v, 0, none⟩ (.int .i64 (g1)) = W6 := ⟨_, rfl⟩
          rw [hW6]
          have kV6 : Blk W6 v 87 [.int .i64 (g1), .int .i64 (s2), .int .i64 (s3)] := by rw [← hW6]; exact kV.set_ 0 _
          have kF6 : Blk W6 v1 4 [.bool true] := by rw [← hW6]; exact blk_other kF (by omega)
          have kZ6 : Blk W6 zz 55 [.int .i64 g1, .int .i64 g2] := by rw [← hW6]; exact blk_other kZ (by omega)
          have hk6 : Keep S W1 W6 := by rw [← hW6]; exact hk4.trans (Keep.setCell _ ⟨v, 0, none⟩ _ hnv)
          have ho6 : KeepsOthers W1 W6 := by rw [← hW6]; exact ho4.trans (KeepsOthers.setCell _ _ _)
          clear hW6 p0 p1 p2 j0 j1 j2 o0 o1 z0 z1 zv zv1 zz0 kV kF kZ hk4 ho4
          obtain ⟨p0, p1, p2⟩ : W6.cell? ⟨v, 0, none⟩ = _ ∧ W6.cell? ⟨v, 1, none⟩ = _ ∧ W6.cell? ⟨v, 2, none⟩ = _ := ⟨kV6.cell 0, kV6.cell 1, kV6.cell 2⟩
          obtain ⟨j0, j1, j2⟩ : W6.frozen? ⟨v, 0, none⟩ = false ∧ W6.frozen? ⟨v, 1, none⟩ = false ∧ W6.frozen? ⟨v, 2, none⟩ = false := ⟨kV6.frozen 0, kV6.frozen 1, kV6.frozen 2⟩
          have o0 := kF6.cell 0
          have o1 := kF6.frozen 0
          obtain ⟨z0, z1⟩ : W6.cell? ⟨zz, 0, none⟩ = _ ∧ W6.cell? ⟨zz, 1, none⟩ = _ := ⟨kZ6.cell 0, kZ6.cell 1⟩
          simp only [List.getElem?_cons_zero, List.getElem?_cons_succ] at p0 p1 p2 o0 z0 z1
          have zv : v < W6.heap.size := kV6.lt
          have zv1 : v1 < W6.heap.size := kF6.lt
          have zz0 : zz < W6.heap.size := kZ6.lt
          by_cases hh : g2 < s2
          · rw [if_pos hh, if_pos hh] at HS3
            have HS4 := hide HS3
            clear HS3
            gi_wp2
            obtain ⟨WE, hWE⟩ : ∃ WE, (W6.setCell ⟨v, 1, none⟩ (.int .i64 g2)).setCell ⟨v, 2, none⟩ (.int .i64 (k : Int)) = WE := ⟨_, rfl⟩
            rw [hWE]
            have kE : Blk WE v 87 [.int .i64 (g1), .int .i64 g2, .int .i64 (k : Int)] := by rw [← hWE]; exact (kV6.set_ 1 _).set_ 2 _
            have fE : Blk WE v1 4 [.bool true] := by rw [← hWE]; exact blk_other (blk_other kF6 (by omega)) (by omega)
            have hks : Keep S W1 WE := by rw [← hWE]; exact (hk6.trans (Keep.setCell _ ⟨v, 1, none⟩ _ hnv)).trans (Keep.setCell _ ⟨v, 2, none⟩ _ hnv)
            have hko : KeepsOthers W1 WE := by rw [← hWE]; exact (ho6.trans (KeepsOthers.setCell _ _ _)).trans (KeepsOthers.setCell _ _ _)
            exact ⟨hko, hks, fun j o h1 h2 _ => by omega, by rw [HS4.out]; exact kE, by rw [HS4.out]; exact fE, hkp.trans hks⟩
          · rw [if_neg hh, if_neg hh] at HS3
            have HS4 := hide HS3
            clear HS3
            gi_wp2
            exact ⟨ho6, hk6, fun j o h1 h2 _ => by omega, by rw [HS4.out]; exact kV6, by rw [HS4.out]; exact kF6, hkp.trans hk6⟩
        · rw [show min (s1) g1 = s1 by omega] at HS3
          gi_upto_region 14 with fail
          obtain ⟨W6, hW6⟩ : ∃ W6, W4.setCell ⟨v, 0, none⟩ (.int .i64 (s1)) = W6 := ⟨_, rfl⟩
          rw [hW6]
          have kV6 : Blk W6 v 87 [.int .i64 (s1), .int .i64 (s2), .int .i64 (s3)] := by rw [← hW6]; exact kV.set_ 0 _
          have kF6 : Blk W6 v1 4 [.bool true] := by rw [← hW6]; exact blk_other kF (by omega)
          have kZ6 : Blk W6 zz 55 [.int .i64 g1, .int .i64 g2] := by rw [← hW6]; exact blk_other kZ (by omega)
          have hk6 : Keep S W1 W6 := by rw [← hW6]; exact hk4.trans (Keep.setCell _ ⟨v, 0, none⟩ _ hnv)
          have ho6 : KeepsOthers W1 W6 := by rw [← hW6]; exact ho4.trans (KeepsOthers.setCell _ _ _)
          clear hW6 p0 p1 p2 j0 j1 j2 o0 o1 z0 z1 zv zv1 zz0 kV kF kZ hk4 ho4
          obtain ⟨p0, p1, p2⟩ : W6.cell? ⟨v, 0, none⟩ = _ ∧ W6.cell? ⟨v, 1, none⟩ = _ ∧ W6.cell? ⟨v, 2, none⟩ = _ := ⟨kV6.cell 0, kV6.cell 1, kV6.cell 2⟩
          obtain ⟨j0, j1, j2⟩ : W6.frozen? ⟨v, 0, none⟩ = false ∧ W6.frozen? ⟨v, 1, none⟩ = false ∧ W6.frozen? ⟨v, 2, none⟩ = false := ⟨kV6.frozen 0, kV6.frozen 1, kV6.frozen 2⟩
          have o0 := kF6.cell 0
          have o1 := kF6.frozen 0
          obtain ⟨z0, z1⟩ : W6.cell? ⟨zz, 0, none⟩ = _ ∧ W6.cell? ⟨zz, 1, none⟩ = _ := ⟨kZ6.cell 0, kZ6.cell 1⟩
          simp only [List.getElem?_cons_zero, List.getElem?_cons_succ] at p0 p1 p2 o0 z0 z1
          have zv : v < W6.heap.size := kV6.lt
          have zv1 : v1 < W6.heap.size := kF6.lt
          have zz0 : zz < W6.heap.size := kZ6.lt
          by_cases hh : g2 < s2
          · rw [if_pos hh, if_pos hh] at HS3
            have HS4 := hide HS3
            clear HS3
            gi_wp2
            obtain ⟨WE, hWE⟩ : ∃ WE, (W6.setCell ⟨v, 1, none⟩ (.int .i64 g2)).setCell ⟨v, 2, none⟩ (.int .i64 (k : Int)) = WE := ⟨_, rfl⟩
            rw [hWE]
            have kE : Blk WE v 87 [.int .i64 (s1), .int .i64 g2, .int .i64 (k : Int)] := by rw [← hWE]; exact (kV6.set_ 1 _).set_ 2 _
            have fE : Blk WE v1 4 [.bool true] := by rw [← hWE]; exact blk_other (blk_other kF6 (by omega)) (by omega)
            have hks : Keep S W1 WE := by rw [← hWE]; exact (hk6.trans (Keep.setCell _ ⟨v, 1, none⟩ _ hnv)).trans (Keep.setCell _ ⟨v, 2, none⟩ _ hnv)
            have hko : KeepsOthers W1 WE := by rw [← hWE]; exact (ho6.trans (KeepsOthers.setCell _ _ _)).trans (KeepsOthers.setCell _ _ _)
            exact ⟨hko, hks, fun j o h1 h2 _ => by omega, by rw [HS4.out]; exact kE, by rw [HS4.out]; exact fE, hkp.trans hks⟩
          · rw [if_neg hh, if_neg hh] at HS3
            have HS4 := hide HS3
            clear HS3
            gi_wp2
            exact ⟨ho6, hk6, fun j o h1 h2 _ => by omega, by rw [HS4.out]; exact kV6, by rw [HS4.out]; exact kF6, hkp.trans hk6⟩
  case done =>
    rintro D W1 hD ⟨hK1, hF1, hkp⟩ hKd
    have hQ1 : Blk W1 q1 87 [.int .i64 0, .int .i64 0, .int .i64 0] := (hkp.block q1 ((hS _).2 (by omega))).trans f2'
    obtain ⟨st, hst⟩ : ∃ st, skAll H f M l (List.range M) = st := ⟨_, rfl⟩
    rw [hst] at hK1 hF1
    have HST := hide hst
    clear hst HIt ki e4' e3' e1' e2' f2'
    obtain ⟨bo, s1, s2, s3⟩ := st
    dsimp only at hK1 hF1
    have p0 := hK1.cell 0; have p1 := hK1.cell 1; have p2 := hK1.cell 2; simp only [List.getElem?_cons_zero, List.getElem?_cons_succ] at p0 p1 p2
    have x0 := hQ1.cell 0; have x1 := hQ1.cell 1; have x2 := hQ1.cell 2; simp only [List.getElem?_cons_zero, List.getElem?_cons_succ] at x0 x1 x2
    obtain ⟨j0, j1, j2⟩ : W1.frozen? ⟨q1, 0, none⟩ = false ∧ W1.frozen? ⟨q1, 1, none⟩ = false ∧ W1.frozen? ⟨q1, 2, none⟩ = false := ⟨hQ1.frozen 0, hQ1.frozen 1, hQ1.frozen 2⟩
    have o0 := hF1.cell 0
    simp only [List.getElem?_cons_zero] at o0
    have y1 := hK1.lt
    have y2 := hF1.lt
    have y3 := hQ1.lt
    go_wp2
    have hvq : v ≠ q1 := by omega
    have hv1q : v1 ≠ q1 := by omega
    have hSd : (True ∧ True) := ⟨trivial, trivial⟩
    have hkw : Below q Wi W1 := ⟨hkp.os, hkp.tape, hkp.output, hkp.size, fun j hj => hkp.block j ((hS _).2 (by omega))⟩
    refine wp_region_held (S := fun _ => (True ∧ True)) (by kernel_rfl) ?_
    change wpAnyH _ _ _ _ _ _ _ _ W1.drew
    refine nextH2 (i := 0) (j := 1) (by kernel_rfl) rfl rfl (fun K hK => ?_) (fun K hK => ?_)
    ·
      go_simp
      refine hK _ _ hSd ?_
      clear hK K
      refine nextH (i := 1) (by kernel_rfl) rfl (fun K hK => ?_)
      go_simp
      refine hK _ _ hSd ?_
      clear hK K
      refine nextH (i := 2) (by kernel_rfl) rfl (fun K hK => ?_)
      go_simp
      refine hK _ _ hSd ?_
      clear hK K
      refine nextH (i := 3) (by kernel_rfl) rfl (fun K hK => ?_)
      go_simp
      refine (errorIf_c _ _ _).mono ?_
      rintro e_ w_ ⟨rfl, rfl⟩
      try dsimp only
      refine hK _ _ hSd ?_
      clear hK K
      refine nextH (i := 4) (by kernel_rfl) rfl (fun K hK => ?_)
      go_simp
      obtain ⟨W2, hW2⟩ : ∃ W2, (((W1.setCell ⟨q1, 0, none⟩ (.int .i64 s1)).setCell ⟨q1, 1, none⟩ (.int .i64 s2)).setCell ⟨q1, 2, none⟩ (.int .i64 s3)).drew = W2 := ⟨_, rfl⟩
      rw [hW2]
      have hK2 : W2.heap[D]? = some (.deferred (some [])) := by rw [← hW2]; exact (((KeepsOthers.setCell _ _ _).trans (KeepsOthers.setCell _ _ _)).trans (KeepsOthers.setCell _ _ _)).same D _ hKd rfl
      have hR2 : Blk W2 q1 87 [.int .i64 s1, .int .i64 s2, .int .i64 s3] := by rw [← hW2]; exact ((hQ1.set_ 0 _).set_ 1 _).set_ 2 _
      have hqq : q ≤ q1 := by omega
      have hB2 : Below q W1 W2 := by rw [← hW2]; exact ((((Below.refl _ _).setCell hqq _).setCell hqq _).setCell hqq _).drew
      clear hW2 p0 p1 p2 x0 x1 x2 j0 j1 j2 o0 y1 y2 y3
      refine hK _ _ hSd ?_
      clear hK K
      refine nextH (i := 5) (by kernel_rfl) rfl (fun K hK => ?_)
      go_simp
      refine hK _ _ hSd ?_
      clear hK K
      refine wpAnyH_done (by kernel_rfl) ?_ _
      go_wp2
      obtain ⟨W3, hW3⟩ : ∃ W3, W2.putObj D (.deferred none) = W3 := ⟨_, rfl⟩
      refine ⟨by simp, .inl ⟨_, _, rfl, run_takeDeferred hK2, ?_⟩⟩
      rw [hW3]
      have hR3 : Blk W3 q1 87 [.int .i64 s1, .int .i64 s2, .int .i64 s3] := by rw [← hW3]; exact (World.putObj_heap_other (by omega)).trans hR2
      have hb3 : Below q W2 W3 := by
        rw [← hW3]
        exact ⟨rfl, rfl, rfl, by simp, fun j hj => World.putObj_heap_other (by omega)⟩
      clear hW3
      have g0 := hR3.cell 0; have g1 := hR3.cell 1; have g2 := hR3.cell 2; simp only [List.getElem?_cons_zero, List.getElem?_cons_succ] at g0 g1 g2
      exact ⟨.tuple #[.agg #[.int .i64 s1, .int .i64 s2, .int .i64 s3], .int .i64 (errIf (!bo) 12)], by simp [results, Try.results50, go_sem, g0, g1, g2]; try rfl, by rw [HST.out], by first | exact ((hBi.trans hkw).trans hB2).trans hb3 | (rw [hq]; exact ((hBi.trans hkw).trans hB2).trans hb3)⟩
    ·
      go_simp
      refine hK _ _ hSd ?_
      clear hK K
      refine nextH2 (i := 0) (j := 2) (by kernel_rfl) rfl rfl (fun K hK => ?_) (fun K hK => ?_)
      ·
        go_simp
        refine hK _ _ hSd ?_
        clear hK K
        refine nextH (i := 2) (by kernel_rfl) rfl (fun K hK => ?_)
        go_simp
        refine hK _ _ hSd ?_
        clear hK K
        refine nextH (i := 3) (by kernel_rfl) rfl (fun K hK => ?_)
        go_simp
        refine (errorIf_c _ _ _).mono ?_
        rintro e_ w_ ⟨rfl, rfl⟩
        try dsimp only
        refine hK _ _ hSd ?_
        clear hK K
        refine nextH (i := 4) (by kernel_rfl) rfl (fun K hK => ?_)
        go_simp
        obtain ⟨W2, hW2⟩ : ∃ W2, (((W1.setCell ⟨q1, 0, none⟩ (.int .i64 s1)).setCell ⟨q1, 1, none⟩ (.int .i64 s2)).setCell ⟨q1, 2, none⟩ (.int .i64 s3)).drew = W2 := ⟨_, rfl⟩
        rw [hW2]
        have hK2 : W2.heap[D]? = some (.deferred (some [])) := by rw [← hW2]; exact (((KeepsOthers.setCell _ _ _).trans (KeepsOthers.setCell _ _ _)).trans (KeepsOthers.setCell _ _ _)).same D _ hKd rfl
        have hR2 : Blk W2 q1 87 [.int .i64 s1, .int .i64 s2, .int .i64 s3] := by rw [← hW2]; exact ((hQ1.set_ 0 _).set_ 1 _).set_ 2 _
        have hqq : q ≤ q1 := by omega
        have hB2 : Below q W1 W2 := by rw [← hW2]; exact ((((Below.refl _ _).setCell hqq _).setCell hqq _).setCell hqq _).drew
        clear hW2 p0 p1 p2 x0 x1 x2 j0 j1 j2 o0 y1 y2 y3
        refine hK _ _ hSd ?_
        clear hK K
        refine nextH (i := 5) (by kernel_rfl) rfl (fun K hK => ?_)
        go_simp
        refine hK _ _ hSd ?_
        clear hK K
        refine wpAnyH_done (by kernel_rfl) ?_ _
        go_wp2
        obtain ⟨W3, hW3⟩ : ∃ W3, W2.putObj D (.deferred none) = W3 := ⟨_, rfl⟩
        refine ⟨by simp, .inl ⟨_, _, rfl, run_takeDeferred hK2, ?_⟩⟩
        rw [hW3]
        have hR3 : Blk W3 q1 87 [.int .i64 s1, .int .i64 s2, .int .i64 s3] := by rw [← hW3]; exact (World.putObj_heap_other (by omega)).trans hR2
        have hb3 : Below q W2 W3 := by
          rw [← hW3]
          exact ⟨rfl, rfl, rfl, by simp, fun j hj => World.putObj_heap_other (by omega)⟩
        clear hW3
        have g0 := hR3.cell 0; have g1 := hR3.cell 1; have g2 := hR3.cell 2; simp only [List.getElem?_cons_zero, List.getElem?_cons_succ] at g0 g1 g2
        exact ⟨.tuple #[.agg #[.int .i64 s1, .int .i64 s2, .int .i64 s3], .int .i64 (errIf (!bo) 12)], by simp [results, Try.results50, go_sem, g0, g1, g2]; try rfl, by rw [HST.out], by first | exact ((hBi.trans hkw).trans hB2).trans hb3 | (rw [hq]; exact ((hBi.trans hkw).trans hB2).trans hb3)⟩
      ·
        go_simp
        refine hK _ _ hSd ?_
        clear hK K
        refine nextH2 (i := 0) (j := 3) (by kernel_rfl) rfl rfl (fun K hK => ?_) (fun K hK => ?_)
        ·
          go_simp
          refine hK _ _ hSd ?_
          clear hK K
          refine nextH (i := 3) (by kernel_rfl) rfl (fun K hK => ?_)
          go_simp
          refine (errorIf_c _ _ _).mono ?_
          rintro e_ w_ ⟨rfl, rfl⟩
          try dsimp only
          refine hK _ _ hSd ?_
          clear hK K
          refine nextH (i := 4) (by kernel_rfl) rfl (fun K hK => ?_)
          go_simp
          obtain ⟨W2, hW2⟩ : ∃ W2, (((W1.setCell ⟨q1, 0, none⟩ (.int .i64 s1)).setCell ⟨q1, 1, none⟩ (.int .i64 s2)).setCell ⟨q1, 2, none⟩ (.int .i64 s3)).drew = W2 := ⟨_, rfl⟩
          rw [hW2]
          have hK2 : W2.heap[D]? = some (.deferred (some [])) := by rw [← hW2]; exact (((KeepsOthers.setCell _ _ _).trans (KeepsOthers.setCell _ _ _)).trans (KeepsOthers.setCell _ _ _)).same D _ hKd rfl
          have hR2 : Blk W2 q1 87 [.int .i64 s1, .int .i64 s2, .int .i64 s3] := by rw [← hW2]; exact ((hQ1.set_ 0 _).set_ 1 _).set_ 2 _
          have hqq : q ≤ q1 := by omega
          have hB2 : Below q W1 W2 := by rw [← hW2]; exact ((((Below.refl _ _).setCell hqq _).setCell hqq _).setCell hqq _).drew
          clear hW2 p0 p1 p2 x0 x1 x2 j0 j1 j2 o0 y1 y2 y3
          refine hK _ _ hSd ?_
          clear hK K
          refine nextH (i := 5) (by kernel_rfl) rfl (fun K hK => ?_)
          go_simp
          refine hK _ _ hSd ?_
          clear hK K
          refine wpAnyH_done (by kernel_rfl) ?_ _
          go_wp2
          obtain ⟨W3, hW3⟩ : ∃ W3, W2.putObj D (.deferred none) = W3 := ⟨_, rfl⟩
          refine ⟨by simp, .inl ⟨_, _, rfl, run_takeDeferred hK2, ?_⟩⟩
          rw [hW3]
          have hR3 : Blk W3 q1 87 [.int .i64 s1, .int .i64 s2, .int .i64 s3] := by rw [← hW3]; exact (World.putObj_heap_other (by omega)).trans hR2
          have hb3 : Below q W2 W3 := by
            rw [← hW3]
            exact ⟨rfl, rfl, rfl, by simp, fun j hj => World.putObj_heap_other (by omega)⟩
          clear hW3
          have g0 := hR3.cell 0; have g1 := hR3.cell 1; have g2 := hR3.cell 2; simp only [List.getElem?_cons_zero, List.getElem?_cons_succ] at g0 g1 g2
          exact ⟨.tuple #[.agg #[.int .i64 s1, .int .i64 s2, .int .i64 s3], .int .i64 (errIf (!bo) 12)], by simp [results, Try.results50, go_sem, g0, g1, g2]; try rfl, by rw [HST.out], by first | exact ((hBi.trans hkw).trans hB2).trans hb3 | (rw [hq]; exact ((hBi.trans hkw).trans hB2).trans hb3)⟩
        · go_simp
          refine (errorIf_c _ _ _).mono ?_
          rintro e_ w_ ⟨rfl, rfl⟩
          try dsimp only
          refine hK _ _ hSd ?_
          clear hK K
          refine nextH (i := 0) (by kernel_rfl) rfl (fun K hK => ?_)
          go_simp
          refine hK _ _ hSd ?_
          clear hK K
          refine nextH (i := 4) (by kernel_rfl) rfl (fun K hK => ?_)
          go_simp
          obtain ⟨W2, hW2⟩ : ∃ W2, (((W1.setCell ⟨q1, 0, none⟩ (.int .i64 s1)).setCell ⟨q1, 1, none⟩ (.int .i64 s2)).setCell ⟨q1, 2, none⟩ (.int .i64 s3)).drew = W2 := ⟨_, rfl⟩
          rw [hW2]
          have hK2 : W2.heap[D]? = some (.deferred (some [])) := by rw [← hW2]; exact (((KeepsOthers.setCell _ _ _).trans (KeepsOthers.setCell _ _ _)).trans (KeepsOthers.setCell _ _ _)).same D _ hKd rfl
          have hR2 : Blk W2 q1 87 [.int .i64 s1, .int .i64 s2, .int .i64 s3] := by rw [← hW2]; exact ((hQ1.set_ 0 _).set_ 1 _).set_ 2 _
          have hqq : q ≤ q1 := by omega
          have hB2 : Below q W1 W2 := by rw [← hW2]; exact ((((Below.refl _ _).setCell hqq _).setCell hqq _).setCell hqq _).drew
          clear hW2 p0 p1 p2 x0 x1 x2 j0 j1 j2 o0 y1 y2 y3
          refine hK _ _ hSd ?_
          clear hK K
          refine nextH (i := 5) (by kernel_rfl) rfl (fun K hK => ?_)
          go_simp
          refine hK _ _ hSd ?_
          clear hK K
          refine wpAnyH_done (by kernel_rfl) ?_ _
          go_wp2
          obtain ⟨W3, hW3⟩ : ∃ W3, W2.putObj D (.deferred none) = W3 := ⟨_, rfl⟩
          refine ⟨by simp, .inl ⟨_, _, rfl, run_takeDeferred hK2, ?_⟩⟩
          rw [hW3]
          have hR3 : Blk W3 q1 87 [.int .i64 s1, .int .i64 s2, .int .i64 s3] := by rw [← hW3]; exact (World.putObj_heap_other (by omega)).trans hR2
          have hb3 : Below q W2 W3 := by
            rw [← hW3]
            exact ⟨rfl, rfl, rfl, by simp, fun j hj => World.putObj_heap_other (by omega)⟩
          clear hW3
          have g0 := hR3.cell 0; have g1 := hR3.cell 1; have g2 := hR3.cell 2; simp only [List.getElem?_cons_zero, List.getElem?_cons_succ] at g0 g1 g2
          exact ⟨.tuple #[.agg #[.int .i64 s1, .int .i64 s2, .int .i64 s3], .int .i64 (errIf (!bo) 12)], by simp [results, Try.results50, go_sem, g0, g1, g2]; try rfl, by rw [HST.out], by first | exact ((hBi.trans hkw).trans hB2).trans hb3 | (rw [hq]; exact ((hBi.trans hkw).trans hB2).trans hb3)⟩
end Go.Proofs.Ytkcjiejdjdcbeaa
