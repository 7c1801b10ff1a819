/- Contracts: the reference's virtual heights. -/
import Derived.Test.YtdeehodekilaiaaG3
set_option linter.unusedSimpArgs false
set_option linter.unusedVariables false
namespace Go.Proofs.Ytdeehodekilaiaa
open Go.RowKit
set_option maxRecDepth 100000

set_option maxHeartbeats 2000000 in
theorem refVirtual_c (base f : Int) (A : Option Addr) (c : Nat) (l : List G) (w : World) (hr : Rd w A (gs l)) (hP : Pro base l) (f0 : 1 ≤ f) (f1 : f ≤ 3000) (hin : passN l f ≠ l.length) :
    Calls Try.prog 42 #[.agg #[.int .i64 base, .slice A l.length c], .int .i64 f] w fun r w' =>
      r = .returned (.agg #[.int .i64 (virt base l f).1, .int .i64 (virt base l f).2]) ∧ Below w.heap.size w w' := by
  have hS := hP.slabs
  have hn := hS.n1
  have hb0 := hS.b0
  have hb1 := hS.b1
  have hpl := passN_le l f
  have HLT := hide (fun k h => passN_ltD (l := l) (f := f) (k := k) h)
  have HST := hide (fun k hk => dly_step hS f0 f1 (k := k) hk)
  have HBD := hide (fun k hk => dly_bd hS f0 f1 (k := k) hk)
  have HG := hide (fun k h => hS.at (k := k) h)
  have HRF := hide (fun W h => refReflected_c base f A c l W h hP f0 f1)
  rw [if_neg hin] at HRF
  have HV : Hid (virt base l f = ((dly base l f (passN l f)).1 / 1000, up (dly base l f (passN l f)).2 1000)) := rfl
  obtain ⟨m, hm⟩ : ∃ m, passN l f = m := ⟨_, rfl⟩
  rw [hm] at hpl HLT HST HBD HRF HV hin
  generalize hgt base l m = H at HRF
  have hml : m < l.length := by omega
  clear hm hS hin
  obtain ⟨W0, hW0⟩ : ∃ W0, (w.alloc (.cells #[.int .i64 base, .slice A l.length c] 24)).alloc (.cells #[.int .i64 0, .int .i64 0] 51) = W0 := ⟨_, rfl⟩
  obtain ⟨p, hp⟩ : ∃ p, w.heap.size = p := ⟨_, rfl⟩
  have hX0 : Blk W0 p 24 [.int .i64 base, .slice A l.length c] := by rw [← hW0, ← hp]; exact (two_new w _ _ [_, _] [_, _]).1
  have hR0 : Blk W0 (p + 1) 51 [.int .i64 0, .int .i64 0] := by rw [← hW0, ← hp]; exact (two_new w _ _ [_, _] [_, _]).2.1
  have hB0 : Below p w W0 := by rw [← hW0, ← hp]; exact (two_new w _ _ [_, _] [_, _]).2.2
  have hr0 := hr.bel (by rw [hp]; exact hB0)
  have HW := hide hW0
  clear hW0 hr
  have c0 := hX0.cell 0; have c1 := hX0.cell 1; simp only [List.getElem?_cons_zero, List.getElem?_cons_succ] at c0 c1
  have z0 := hR0.lt
  go_enter Try.func42, Try.ntmps42
  go_upto_region 1 with fail
  rw [HW.out]
  go_upto_region 2 with (first | (go_at_call 41; refine (HRF.out _ hr0).mono ?_; rintro e w1 ⟨rfl, hb1⟩))
  have hX1 := hX0.bel hb1
  have hR1 := hR0.bel hb1
  have hr1 := hr0.bel hb1
  have hB1 := bel_tr hB0 (by omega) hb1
  have z1 := hR1.lt
  clear c0 c1 hX0 hR0 hr0 hB0 hb1
  have c0 := hX1.cell 0; have c1 := hX1.cell 1; simp only [List.getElem?_cons_zero, List.getElem?_cons_succ] at c0 c1
  go_wp2
  go_quiet (fail)
  go_wp2
  clear c0 c1
  go_loopw [8, 9, 10] (fun x y i wr => ∃ k : Nat, k ≤ m ∧ x = .int .i64 (dly base l f k).1 ∧ y = .int .i64 (dly base l f k).2 ∧ i = .int .i64 k ∧ Below w1.heap.size w1 wr) (fun _ _ i _ => m - (intOf i).toNat)
  case atStart => exact ⟨0, Nat.zero_le _, rfl, rfl, rfl, below_drewN (Below.refl _ _) _⟩
  case round =>
    obtain ⟨k, hkm, rfl, rfl, rfl, hbr⟩ := hrel
    have hXr := hX1.bel hbr
    have hRr := hR1.bel hbr
    have hzr := hRr.lt
    have c0 := hXr.cell 0; have c1 := hXr.cell 1; simp only [List.getElem?_cons_zero, List.getElem?_cons_succ] at c0 c1
    have hd := HBD.out k hkm
    by_cases hkp : k < m
    · have hlt : k < l.length := by omega
      obtain ⟨b, off, rfl, hblt, hc0, hc1⟩ := (hr1.bel hbr).g_at hlt
      have hp2 := HLT.out k hkp
      have hst := HST.out k hkp
      have hg := HG.out k hlt
      have HX : Hid (dly base l f (k + 1) = ((dly base l f k).1 + (l.getD k G0).2 * (idx (l.getD k G0).1 f).1, (dly base l f k).2 + (l.getD k G0).2 * (idx (l.getD k G0).1 f).2)) := rfl
      rw [getD_at hlt] at hp2 hst hg HX
      generalize l[k].1 = sq at hc0 hp2 hst hg HX
      generalize l[k].2 = t at hc1 hst hg HX
      have HI := hide (fun W => refIndex_c sq f W f0 f1 hg.1 hp2)
      have hix := idx_bd f0 hg.1 hp2
      generalize (idx sq f).1 = ilo at HI hst HX hix
      generalize (idx sq f).2 = ihi at HI hst HX hix
      generalize (dly base l f k).1 = dlo at hd HX ⊢
      generalize (dly base l f k).2 = dhi at hd HX ⊢
      have q1 : 0 ≤ t ∧ t ≤ 500 := ⟨hg.2.2.1, hg.2.2.2⟩
      have q2 : 0 ≤ ilo ∧ ilo ≤ 3000000 := by omega
      have q3 : 0 ≤ ihi ∧ ihi ≤ 3000000 := by omega
      have s1 : IntKind.i64.wrap (t * ilo) = t * ilo := by simp (disch := omega) only [IntWalk.i64_in]
      have s2 : IntKind.i64.wrap (t * ihi) = t * ihi := by simp (disch := omega) only [IntWalk.i64_in]
      have s3 : IntKind.i64.wrap (dlo + t * ilo) = dlo + t * ilo := by simp (disch := omega) only [IntWalk.i64_in]
      have s4 : IntKind.i64.wrap (dhi + t * ihi) = dhi + t * ihi := by simp (disch := omega) only [IntWalk.i64_in]
      clear hd hst hix hp2
      go_upto_region 7 with (first | (go_at_call 56; refine (HI.out _).mono ?_; rintro e w2 ⟨rfl, hb2⟩))
      obtain ⟨W3, hW3⟩ : ∃ W3, w2.alloc (.cells #[.int .i64 ilo, .int .i64 ihi] 51) = W3 := ⟨_, rfl⟩
      have hb3 : Below wr.heap.size wr W3 := by rw [← hW3]; exact bel_alloc hb2 hb2.size _
      have hP3 : Blk W3 w2.heap.size 51 [.int .i64 ilo, .int .i64 ihi] := by rw [← hW3]; exact Blk.new w2 _ [_, _]
      have hX3 := hXr.bel hb3
      rw [hW3]
      clear hW3 c0 c1 hc0
      have d0 := hX3.cell 0; have d1 := hX3.cell 1; simp only [List.getElem?_cons_zero, List.getElem?_cons_succ] at d0 d1
      have g0 := hP3.cell 0; have g1 := hP3.cell 1; simp only [List.getElem?_cons_zero, List.getElem?_cons_succ] at g0 g1
      have n1 := (hb3.cell (p := ⟨b, off + k * 2 + 1, none⟩) hblt).trans hc1
      have hz3 := hX3.lt
      have hz4 := hP3.lt
      clear hc1
      go_quiet (fail)
      go_wp2
      go_roundw
      case rel => exact ⟨k + 1, by omega, by rw [HX.out], by rw [HX.out], by go_num, below_drewN (tr hbr hb3 hbr.size) _⟩
      case measure => simp [intOf]; omega
    · obtain rfl : k = m := by omega
      have hRc0 := hRr.frozen 0
      have hRc1 := hRr.frozen 1
      have hRc2 := hRr.cell 0
      have hRc3 := hRr.cell 1
      simp only [List.getElem?_cons_zero, List.getElem?_cons_succ] at hRc2 hRc3
      generalize (dly base l f k).1 = dlo at hd HV ⊢
      generalize (dly base l f k).2 = dhi at hd HV ⊢
      have HF := hide (fun W => floor_c dlo 1000 W (by omega) (by omega) (by omega) (by omega))
      have HC := hide (fun W => ceil_c dhi 1000 W (by omega) (by omega) (by omega) (by omega))
      generalize dlo / 1000 = vlo at HF HV
      generalize up dhi 1000 = vhi at HC HV
      go_wp2_with (first | (go_at_call 57; with_reducible refine (HF.out _).mono ?_; rintro e_ w_ ⟨rfl, rfl⟩) | (go_at_call 58; with_reducible refine (HC.out _).mono ?_; rintro e_ w_ ⟨rfl, rfl⟩))
      have hRE := (hRr.set_ 0 (.int .i64 vlo)).set_ 1 (.int .i64 vhi)
      have hBE : Below p w ((wr.setCell ⟨p + 1, 0, none⟩ (.int .i64 vlo)).setCell ⟨p + 1, 1, none⟩ (.int .i64 vhi)) := ((bel_tr hB1 (by omega) hbr).setCell (by show p ≤ p + 1; omega) _).setCell (by show p ≤ p + 1; omega) _
      generalize (wr.setCell ⟨p + 1, 0, none⟩ (.int .i64 vlo)).setCell ⟨p + 1, 1, none⟩ (.int .i64 vhi) = WE at hRE hBE ⊢
      have v0 := hRE.cell 0
      have v1 := hRE.cell 1
      simp only [List.set_cons_zero, List.set_cons_succ, List.getElem?_cons_zero, List.getElem?_cons_succ] at v0 v1
      exact bodyPost_ret (v := .agg #[.int .i64 vlo, .int .i64 vhi]) (by simp [results, Try.results42, go_sem, v0, v1]; try rfl) rfl ⟨by rw [HV.out], by rw [hp]; exact hBE⟩
end Go.Proofs.Ytdeehodekilaiaa
