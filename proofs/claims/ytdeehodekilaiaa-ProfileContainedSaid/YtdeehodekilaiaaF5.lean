/- Contracts: delays. -/
import Derived.Test.YtdeehodekilaiaaF4
import Derived.Shelf.RegionOpen
set_option linter.unusedSimpArgs false
set_option linter.unusedVariables false
namespace Go.Proofs.Ytdeehodekilaiaa
open Go.RowKit
set_option maxRecDepth 100000
attribute [local go_sem] Oper.semAt_some

set_option maxHeartbeats 2000000 in
theorem delayOf_c (base f : Int) (A : Option Addr) (c : Nat) (l : List G) (w : World) (hr : Rd w A (gs l)) (hs : Slabs base l) (h1 : 1 ≤ f) (h2 : f ≤ 3000) :
    Calls Try.prog 44 #[.agg #[.int .i64 base, .slice A l.length c], .int .i64 f] w fun r w' =>
      r = .returned (.agg #[.int .i64 (dly base l f (passN l f)).1, .int .i64 (dly base l f (passN l f)).2]) ∧ Below w.heap.size w w' := by
  have hb0 := hs.b0
  have hb1 := hs.b1
  have hn1 := hs.n1
  obtain ⟨W0, hW0⟩ : ∃ W0, ((w.alloc (.cells #[.int .i64 base, .slice A l.length c] 24)).alloc (.cells #[.int .i64 f] 3)).alloc (.cells #[.int .i64 0, .int .i64 0] 51) = W0 := ⟨_, rfl⟩
  have hS0 : W0.heap.size = w.heap.size + 3 := by rw [← hW0]; simp
  have hX0 : Blk W0 w.heap.size 24 [.int .i64 base, .slice A l.length c] := by rw [← hW0]; exact ((Blk.new w _ [_, _]).bel (alloc_bel _ _)).bel (alloc_bel _ _)
  have hF0 : Blk W0 (w.heap.size + 1) 3 [.int .i64 f] := by rw [← hW0]; have := (Blk.new (w.alloc (.cells #[.int .i64 base, .slice A l.length c] 24)) 3 [.int .i64 f]).bel (alloc_bel _ (.cells #[.int .i64 0, .int .i64 0] 51)); simpa using this
  have hR0 : Blk W0 (w.heap.size + 2) 51 [.int .i64 0, .int .i64 0] := by rw [← hW0]; have := Blk.new ((w.alloc (.cells #[.int .i64 base, .slice A l.length c] 24)).alloc (.cells #[.int .i64 f] 3)) 51 [.int .i64 0, .int .i64 0]; simpa using this
  have hB0 : Below w.heap.size w W0 := by rw [← hW0]; exact bel_alloc (bel_alloc (alloc_bel w _) (by simp) _) (by simp; omega) _
  have HW := hide hW0
  clear hW0
  have c0 := hX0.cell 0; have c1 := hX0.cell 1; simp only [List.getElem?_cons_zero, List.getElem?_cons_succ] at c0 c1
  have d0 := hF0.cell 0
  simp only [List.getElem?_cons_zero] at d0
  refine calls_marks 5 Try.func44 rfl ?_
  simp only [Try.ntmps44, List.size_toArray, List.length_cons, List.length_nil, Nat.reduceAdd, Nat.reduceSub, Array.replicate_succ, Array.replicate_zero, List.push_toArray, List.append_toArray, List.nil_append, List.cons_append]
  go_upto_region 1 with fail
  rw [HW.out]
  go_wp2_with (first | (go_at_call 43; refine (passed_c _ _ _ _ _ _).mono ?_; rintro e w2 ⟨rfl, rfl⟩))
  obtain ⟨p, hp⟩ : ∃ p, w.heap.size = p := ⟨_, rfl⟩
  obtain ⟨W2, hW2⟩ : ∃ W2, ((W0.alloc (.cells #[.int .i64 (1000 * base), .int .i64 (1000 * base)] 51)).alloc (.cells #[.int .i64 base, .slice A l.length c] 24)).alloc (.cells #[.int .i64 f] 3) = W2 := ⟨_, rfl⟩
  rw [hW2]
  have e1 : (W0.alloc (.cells #[.int .i64 (1000 * base), .int .i64 (1000 * base)] 51)).heap.size = p + 4 := by simp; omega
  have e2 : ((W0.alloc (.cells #[.int .i64 (1000 * base), .int .i64 (1000 * base)] 51)).alloc (.cells #[.int .i64 base, .slice A l.length c] 24)).heap.size = p + 5 := by simp; omega
  have hsz : W2.heap.size = p + 6 := by rw [← hW2]; simp; omega
  have hSum : Blk W2 (p + 3) 51 [.int .i64 (1000 * base), .int .i64 (1000 * base)] := by
    have := ((Blk.new W0 51 [.int .i64 (1000 * base), .int .i64 (1000 * base)]).bel (alloc_bel _ (.cells #[.int .i64 base, .slice A l.length c] 24))).bel (alloc_bel _ (.cells #[.int .i64 f] 3))
    rw [hS0, hp] at this
    rw [← hW2]; exact this
  have hSky : Blk W2 (p + 4) 24 [.int .i64 base, .slice A l.length c] := by
    have := (Blk.new (W0.alloc (.cells #[.int .i64 (1000 * base), .int .i64 (1000 * base)] 51)) 24 [.int .i64 base, .slice A l.length c]).bel (alloc_bel _ (.cells #[.int .i64 f] 3))
    rw [e1] at this
    rw [← hW2]; exact this
  have hFr : Blk W2 (p + 5) 3 [.int .i64 f] := by
    have := Blk.new ((W0.alloc (.cells #[.int .i64 (1000 * base), .int .i64 (1000 * base)] 51)).alloc (.cells #[.int .i64 base, .slice A l.length c] 24)) 3 [.int .i64 f]
    rw [e2] at this
    rw [← hW2]; exact this
  have hb02 : Below (p + 3) W0 W2 := by
    rw [← hW2]
    exact bel_alloc (bel_alloc ((alloc_bel W0 _).mono (by omega)) (by simp; omega) _) (by simp; omega) _
  have hbw : Below w.heap.size w W2 := hB0.trans (hb02.mono (by omega))
  rw [hp] at hX0 hF0 hR0 hbw
  have hF2 : Blk W2 (p + 1) 3 [.int .i64 f] := hF0.below hb02 (by omega)
  have hR2 : Blk W2 (p + 2) 51 [.int .i64 0, .int .i64 0] := hR0.below hb02 (by omega)
  have hr2 := hr.bel (by rw [hp]; exact hbw)
  have hlow := hr.low
  rw [hp]
  clear hW2 e1 e2 HW c0 c1 d0 hX0 hF0 hR0 hB0 hS0 hb02 hr
  obtain ⟨S, hS⟩ : ∃ S : Nat → Prop, ∀ j, S j ↔ j < p + 6 ∧ j ≠ p + 3 := ⟨fun j => j < p + 6 ∧ j ≠ p + 3, fun _ => Iff.rfl⟩
  have hm := passN_le l f
  have HST := hide (fun k hk => dly_step hs h1 h2 (k := k) hk)
  have HBD := hide (fun k hk => dly_bd hs h1 h2 (k := k) hk)
  have HLT := hide (fun k h => passN_ltD (l := l) (f := f) (k := k) h)
  have HAT := hide (fun k hk => hs.at (k := k) hk)
  refine wpIn_wide.1 (range_law2 (n := 5) (α := Nat) rfl Try.call59 (passed_iter 4 (p + 4) (p + 5) (by omega) base f A c l (by omega) h1 h2 S ((hS _).2 ⟨by omega, by omega⟩) ((hS _).2 ⟨by omega, by omega⟩) (fun hx b off e => (hS _).2 (by have := hlow hx b off e; omega)) W2 hSky hFr hr2)
    (fun j hj => by have := (hS j).1 hj; omega) (fun x args W h => by cases h; rfl)
    (fun pre W => Blk W (p + 3) 51 [.int .i64 (dly base l f pre.length).1, .int .i64 (dly base l f pre.length).2] ∧ Keep S W2 W)
    (fun pre W W' ⟨h1, h2⟩ hb => ⟨h1.bel hb, h2.trans (Keep.of_below hb fun j hj => by have h3 := h2.size; have := (hS j).1 hj; omega)⟩)
    (fun pre W l' o o' ⟨h1, h2⟩ hB hl' ho => ⟨(World.putObj_heap_other (by omega)).trans h1, h2.trans (Keep.putObj _ _ _ fun hj => by have := (hS l').1 hj; omega)⟩)
    ⟨hSum, Keep.refl _ _⟩
    (fun k a₁ W => ∃ bb : Nat, a₁ = { tmps := #[.agg #[.int .i64 base, .slice A l.length c], .int .i64 f, .pointer (some ⟨p, 0, none⟩), .pointer (some ⟨p + 1, 0, none⟩), .pointer (some ⟨p + 1 + 1, 0, none⟩), .pointer (some ⟨p + 3, 0, none⟩), .pointer (some ⟨bb, 0, none⟩), undef, .pointer (some ⟨p, 0, none⟩), .int .i64 base, .int .i64 (1000 * base), .pointer (some ⟨p, 0, none⟩), .int .i64 base, .int .i64 (1000 * base), .agg #[.int .i64 (1000 * base), .int .i64 (1000 * base)], .agg #[.int .i64 base, .slice A l.length c], .int .i64 f, .func (.func 59) #[] #[.pointer (some ⟨p + 3 + 1, 0, none⟩), .pointer (some ⟨p + 3 + 1 + 1, 0, none⟩)], .agg #[.int .i64 (l.getD k G0).1, .int .i64 (l.getD k G0).2], undef, undef, undef, undef, undef, undef, undef, undef, undef, undef, undef, undef, undef, undef, undef, undef, undef, undef, undef, undef, undef, undef, undef], defers := [] } ∧ p + 6 ≤ bb ∧ Blk W bb 47 [.int .i64 (l.getD k G0).1, .int .i64 (l.getD k G0).2])
    ?hZ ?assign ?body ?done)
  case hZ =>
    rintro k a W l' o o' ⟨bb, h3, h4, h5⟩ hl' ho hc
    exact ⟨bb, h3, h4, (World.putObj_heap_other (fun e => by subst e; rw [show W.heap[bb]? = _ from h5] at ho; cases ho; cases hc)).trans h5⟩
  case assign =>
    rintro l' k args W K h hge hK
    cases h
    gi_wp2
    exact hK _ _ (alloc_bel _ _) ⟨W.heap.size, rfl, by omega, Blk.new W _ [_, _]⟩
  case body =>
    rintro l' pre k rest a₁ W' hxs ⟨hSm, hkp⟩ ⟨bb, rfl, hbb, hB4⟩ hge
    obtain ⟨hkl, hkm⟩ := range_at hxs
    rw [← hkl] at hSm
    have HKL := hide hkl
    clear hkl hxs
    obtain ⟨s1, s2, s3, _⟩ := HST.out k hkm
    obtain ⟨d1, d2, d3, _⟩ := HBD.out k (by omega)
    have hp1 := HLT.out k hkm
    have ha := HAT.out k (by omega)
    have HD : Hid ((dly base l f (k + 1)).1 = (dly base l f k).1 + (l.getD k G0).2 * (idx (l.getD k G0).1 f).1 ∧ (dly base l f (k + 1)).2 = (dly base l f k).2 + (l.getD k G0).2 * (idx (l.getD k G0).1 f).2) := ⟨rfl, rfl⟩
    have hkn : k ≤ 100 := by omega
    generalize (dly base l f k).1 = dlo at hSm d1 d2 HD
    generalize (dly base l f k).2 = dhi at hSm d2 d3 HD
    generalize (l.getD k G0).1 = sq at hB4 hp1 ha s1 s2 s3 HD ⊢
    generalize (l.getD k G0).2 = t at hB4 ha s1 s2 s3 HD ⊢
    have HI := hide (fun W => indexOf_c sq f W h1 h2 ha.1 hp1)
    generalize (idx sq f).1 = ilo at HI s1 s2 HD
    generalize (idx sq f).2 = ihi at HI s2 s3 HD
    have hF' : Blk W' (p + 1) 3 [.int .i64 f] := (hkp.block _ ((hS _).2 ⟨by omega, by omega⟩)).trans hF2
    have z0 := hF'.cell 0
    have x0 := hB4.cell 0
    have x1 := hB4.cell 1
    simp only [List.getElem?_cons_zero, List.getElem?_cons_succ] at z0 x0 x1
    have hzb := hB4.lt
    gi_wp2_with (first
      | (refine ⟨trivial, ?_⟩; gi_at_call 61; refine (CallsIn.mono (CallsIn.inRound l' (callsIn_wide.2 (HI.out _))) ?_); rintro e w3 ⟨rfl, hb3⟩; have hSm3 := hSm.bel hb3; have hB3 := hB4.bel hb3; have q0 := hSm3.cell 0; have q1 := hSm3.cell 1; have q2 := hB3.cell 0; have q3 := hB3.cell 1; have q4 := hSm3.frozen 0; have q5 := hSm3.frozen 1; simp only [List.getElem?_cons_zero, List.getElem?_cons_succ] at q0 q1 q2 q3; have q6 := hSm3.lt; have q7 := hB3.lt))
    have hnS : ¬ S (p + 3) := fun h => ((hS _).1 h).2 rfl
    have hE : Blk (((w3.setCell ⟨p + 3, 0, none⟩ (.int .i64 (dlo + t * ilo))).setCell ⟨p + 3, 1, none⟩ (.int .i64 (dhi + t * ihi))).alloc (.cells #[.int .i64 ilo, .int .i64 ihi] 51)) (p + 3) 51 [.int .i64 (dlo + t * ilo), .int .i64 (dhi + t * ihi)] := ((hSm3.set_ 0 _).set_ 1 _).bel (alloc_bel _ _)
    have hk2 : Keep S W' (((w3.setCell ⟨p + 3, 0, none⟩ (.int .i64 (dlo + t * ilo))).setCell ⟨p + 3, 1, none⟩ (.int .i64 (dhi + t * ihi))).alloc (.cells #[.int .i64 ilo, .int .i64 ihi] 51)) :=
      (Keep.of_below hb3 (fun j hj => by have := (hS j).1 hj; omega)).trans ((Keep.setCell _ _ _ hnS).trans ((Keep.setCell _ _ _ hnS).trans (Keep.of_below (alloc_bel _ _) (fun j hj => by have := (hS j).1 hj; have := hb3.size; simp; omega))))
    refine ⟨(others_of_below hb3).trans ((KeepsOthers.setCell _ _ _).trans ((KeepsOthers.setCell _ _ _).trans (KeepsOthers.alloc _ _))), hk2, ?_, hkp.trans hk2⟩
    rw [List.length_append, List.length_singleton, ← HKL.out, HD.out.1, HD.out.2]
    exact hE
  case done =>
    rintro D W' hD ⟨hSm, hkp⟩ hK
    rw [List.length_range] at hSm
    have hR' : Blk W' (p + 2) 51 [.int .i64 0, .int .i64 0] := (hkp.block _ ((hS _).2 ⟨by omega, by omega⟩)).trans hR2
    have x0 := hSm.cell 0
    have x1 := hSm.cell 1
    have y0 := hR'.cell 0
    have y1 := hR'.cell 1
    have f0 := hR'.frozen 0
    have f1 := hR'.frozen 1
    simp only [List.getElem?_cons_zero, List.getElem?_cons_succ] at x0 x1 y0 y1
    have hz1 := hSm.lt
    obtain ⟨dlo, hlo⟩ : ∃ x, (dly base l f (passN l f)).1 = x := ⟨_, rfl⟩
    obtain ⟨dhi, hhi⟩ : ∃ x, (dly base l f (passN l f)).2 = x := ⟨_, rfl⟩
    rw [hlo] at x0
    rw [hhi] at x1
    have H1 := hide hlo
    have H2 := hide hhi
    clear hlo hhi hSm
    go_wp2
    obtain ⟨WE, hWE⟩ : ∃ WE, (W'.setCell ⟨p + 1 + 1, 0, none⟩ (.int .i64 dlo)).setCell ⟨p + 1 + 1, 1, none⟩ (.int .i64 dhi) = WE := ⟨_, rfl⟩
    rw [hWE]
    have hE : Blk WE (p + 2) 51 [.int .i64 dlo, .int .i64 dhi] := by rw [← hWE]; exact (hR'.set_ 0 _).set_ 1 _
    have hKE : WE.heap[D]? = some (.deferred (some [])) := by
      rw [← hWE]
      have hne : ∀ i, D ≠ (⟨p + 1 + 1, i, none⟩ : Addr).block := fun i => by show D ≠ p + 1 + 1; omega
      rw [Below.heap_setCell _ _ _ _ (hne 1), Below.heap_setCell _ _ _ _ (hne 0)]
      exact hK
    have hbW : Below p w W' := hbw.trans ⟨hkp.os, hkp.tape, hkp.output, hkp.size, fun k hk => hkp.block k ((hS k).2 ⟨by omega, by omega⟩)⟩
    have hBE : Below p w WE := by rw [← hWE]; exact (hbW.setCell (by show p ≤ p + 1 + 1; omega) _).setCell (by show p ≤ p + 1 + 1; omega) _
    clear hWE
    refine ⟨by simp, .inl ⟨_, _, rfl, run_takeDeferred hKE, ?_⟩⟩
    have hEF : Blk (WE.putObj D (.deferred none)) (p + 2) 51 [.int .i64 dlo, .int .i64 dhi] := (World.putObj_heap_other (by omega)).trans hE
    have hBF : Below p w (WE.putObj D (.deferred none)) := ⟨hBE.os, hBE.tape, hBE.output, by simpa using hBE.size, fun k hk => (World.putObj_heap_other (by omega)).trans (hBE.block k hk)⟩
    generalize WE.putObj D (.deferred none) = WF at hEF hBF ⊢
    have g0 := hEF.cell 0
    have g1 := hEF.cell 1
    simp only [List.getElem?_cons_zero, List.getElem?_cons_succ] at g0 g1
    exact ⟨.agg #[.int .i64 dlo, .int .i64 dhi], by simp [results, Try.results44, go_sem, g0, g1]; try rfl, by rw [H1.out, H2.out], by rw [hp]; exact hBF⟩
end Go.Proofs.Ytdeehodekilaiaa
