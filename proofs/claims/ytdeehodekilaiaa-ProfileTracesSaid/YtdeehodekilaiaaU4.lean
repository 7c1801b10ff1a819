/- Contracts: the trace of a profile by some frequencies, as the reference has it. -/
import Derived.Test.YtdeehodekilaiaaU3
import Derived.Test.YtdeehodekilaiaaG4
import Derived.Test.YtdeehodekilaiaaK1
set_option linter.unusedSimpArgs false
set_option linter.unusedVariables false
namespace Go.Proofs.Ytdeehodekilaiaa
open Go.RowKit
set_option maxRecDepth 100000

set_option maxHeartbeats 4000000 in
theorem refTraceOf_c (base : Int) (A : Option Addr) (c : Nat) (l : List G) (F : Option Addr) (fc : Nat) (fs : List Int) (w : World) (hr : Rd w A (gs l)) (hf : Rd w F (ints fs)) (hP : Pro base l) (hfs : fs.length ≤ 1000) :
    Calls Try.prog 13 #[.agg #[.int .i64 base, .slice A l.length c], .slice F fs.length fc] w fun r w' => (∃ A' c', r = .returned (.tuple #[.agg #[.slice A' (trfR base l fs).1.length c', .int .i64 0, .int .i64 0], .int .i64 (trfR base l fs).2.1, .int .i64 (trfR base l fs).2.2]) ∧ Rd w' A' (ps (trfR base l fs).1)) ∧ Below w.heap.size w w' := by
  obtain ⟨i0, hi, iz0, iz1, iz2⟩ := info_parts Try.infoP
  have hpe : (proE base l).2 = 0 := by rw [hP.err]
  obtain ⟨W0, hW0⟩ : ∃ W0, (w.alloc (.cells #[.int .i64 base, .slice A l.length c] 24)).alloc (.cells #[.slice none 0 0, .int .i64 0, .int .i64 0] 30) = W0 := ⟨_, rfl⟩
  obtain ⟨p, hp⟩ : ∃ p, w.heap.size = p := ⟨_, rfl⟩
  have HW := hide hW0
  clear hW0
  go_enter Try.func13, Try.ntmps13
  go_upto_region 1 with fail
  rw [HW.out]
  go_upto_region 2 with fail
  obtain ⟨W1, hW1⟩ : ∃ W1, W0.alloc (.cells #[.slice none 0 0, .int .i64 0, .int .i64 0] 30) = W1 := ⟨_, rfl⟩
  obtain ⟨hs1, hX1, hR1, hT1, hB1⟩ := three_new w W1 _ _ _ [_, _] [_, _, _] [_, _, _] (by rw [← hW1, ← HW.out])
  rw [hp] at hs1 hX1 hR1 hT1 hB1
  have e0 : W0.heap.size = p + 2 := by rw [← HW.out, ← hp]; simp
  rw [hW1, e0]
  clear hW1 e0
  by_cases n0 : fs.length = 0
  · have HF := hide (trfR_head (base := base) (l := l) (fs := fs) (e := 10) (by rw [hpe]; exact trfHead_none n0) (by decide))
    have e1 : ((fs.length : Int) == 0) = true := by simp; exact List.eq_nil_of_length_eq_zero n0
    clear n0
    go_upto_region 3 with fail
    have k0 := hT1.cell 0
    have k1 := hT1.cell 1
    have k2 := hT1.cell 2
    simp only [List.getElem?_cons_zero, List.getElem?_cons_succ] at k0 k1 k2
    have fz0 := hR1.frozen 0
    have fz1 := hR1.frozen 1
    have fz2 := hR1.frozen 2
    have r0 := hR1.cell 0
    have r1 := hR1.cell 1
    have r2 := hR1.cell 2
    simp only [List.getElem?_cons_zero, List.getElem?_cons_succ] at r0 r1 r2
    have zt := hT1.lt
    have zr := hR1.lt
    go_wp2
    obtain ⟨WE, hWE⟩ : ∃ WE, ((W1.setCell ⟨p + 1, 0, none⟩ (.slice none 0 0)).setCell ⟨p + 1, 1, none⟩ (.int .i64 0)).setCell ⟨p + 1, 2, none⟩ (.int .i64 0) = WE := ⟨_, rfl⟩
    rw [hWE]
    have hE : Blk WE (p + 1) 30 [.slice none 0 0, .int .i64 0, .int .i64 0] := by rw [← hWE]; exact ((hR1.set_ 0 _).set_ 1 _).set_ 2 _
    have hBE : Below p w WE := by rw [← hWE]; exact (((hB1).setCell (by show p ≤ p + 1; omega) _).setCell (by show p ≤ p + 1; omega) _).setCell (by show p ≤ p + 1; omega) _
    clear hWE
    have g0 := hE.cell 0; have g1 := hE.cell 1; have g2 := hE.cell 2; simp only [List.getElem?_cons_zero, List.getElem?_cons_succ] at g0 g1 g2
    exact bodyPost_ret (v := .tuple #[.agg #[.slice none 0 0, .int .i64 0, .int .i64 0], .int .i64 0, .int .i64 10]) (by simp [results, Try.results13, go_sem, g0, g1, g2]; try rfl) rfl ⟨⟨none, 0, by rw [HF.out]; rfl, by rw [HF.out]; exact Rd.nil _ _⟩, by rw [hp]; exact hBE⟩
  · have e1 : ((fs.length : Int) == 0) = false := by simp; rintro rfl; exact n0 rfl
    by_cases n1 : 8 < fs.length
    · have HF := hide (trfR_head (base := base) (l := l) (fs := fs) (e := 8) (by rw [hpe]; exact trfHead_many n1) (by decide))
      have e2 : decide (8 < (fs.length : Int)) = true := by simp; omega
      clear n0 n1
      go_upto_region 5 with fail
      have k0 := hT1.cell 0
      have k1 := hT1.cell 1
      have k2 := hT1.cell 2
      simp only [List.getElem?_cons_zero, List.getElem?_cons_succ] at k0 k1 k2
      have fz0 := hR1.frozen 0
      have fz1 := hR1.frozen 1
      have fz2 := hR1.frozen 2
      have r0 := hR1.cell 0
      have r1 := hR1.cell 1
      have r2 := hR1.cell 2
      simp only [List.getElem?_cons_zero, List.getElem?_cons_succ] at r0 r1 r2
      have zt := hT1.lt
      have zr := hR1.lt
      go_wp2
      obtain ⟨WE, hWE⟩ : ∃ WE, ((W1.setCell ⟨p + 1, 0, none⟩ (.slice none 0 0)).setCell ⟨p + 1, 1, none⟩ (.int .i64 0)).setCell ⟨p + 1, 2, none⟩ (.int .i64 0) = WE := ⟨_, rfl⟩
      rw [hWE]
      have hE : Blk WE (p + 1) 30 [.slice none 0 0, .int .i64 0, .int .i64 0] := by rw [← hWE]; exact ((hR1.set_ 0 _).set_ 1 _).set_ 2 _
      have hBE : Below p w WE := by rw [← hWE]; exact (((hB1).setCell (by show p ≤ p + 1; omega) _).setCell (by show p ≤ p + 1; omega) _).setCell (by show p ≤ p + 1; omega) _
      clear hWE
      have g0 := hE.cell 0; have g1 := hE.cell 1; have g2 := hE.cell 2; simp only [List.getElem?_cons_zero, List.getElem?_cons_succ] at g0 g1 g2
      exact bodyPost_ret (v := .tuple #[.agg #[.slice none 0 0, .int .i64 0, .int .i64 0], .int .i64 0, .int .i64 8]) (by simp [results, Try.results13, go_sem, g0, g1, g2]; try rfl) rfl ⟨⟨none, 0, by rw [HF.out]; rfl, by rw [HF.out]; exact Rd.nil _ _⟩, by rw [hp]; exact hBE⟩
    · have HH := hide (show trfHead (proE base l).2 fs.length = 0 by rw [hpe]; exact trfHead_ok n0 (by omega))
      have e2 : decide (8 < (fs.length : Int)) = false := by simp; omega
      have hn8 : fs.length ≤ 8 := by omega
      clear n0 n1
      go_upto_region 7 with fail
      obtain ⟨W2, hW2⟩ : ∃ W2, W1.alloc (.cells #[.slice none 0 0, .int .i64 0, .int .i64 0] 30) = W2 := ⟨_, rfl⟩
      have hb2 : Below W1.heap.size W1 W2 := by rw [← hW2]; exact alloc_bel _ _
      have hO2 : Blk W2 (p + 3) 30 [.slice none 0 0, .int .i64 0, .int .i64 0] := by rw [← hW2, ← hs1]; exact Blk.new W1 _ [_, _, _]
      have hs2 : W2.heap.size = p + 4 := by rw [← hW2]; simp [hs1]
      rw [hW2]
      clear hW2
      have hX2 := hX1.bel hb2
      have hR2 := hR1.bel hb2
      have hT2 := hT1.bel hb2
      have hB2 := bel_tr hB1 (by omega) hb2
      clear hX1 hR1 hT1 hB1 hb2 hs1
      go_wp2
      obtain ⟨q, hq⟩ : ∃ q, q = p + 4 := ⟨_, rfl⟩
      go_loopw [9] (fun x wr => ∃ (k : Nat) (v : Value), k ≤ fs.length ∧ x = .int .i64 k ∧ Below (p + 3) W2 wr ∧ q ≤ wr.heap.size ∧ Blk wr (p + 3) 30 [v, .int .i64 0, .int .i64 0] ∧ wr.ownsRow q 55 3 v k (ps ((fs.take k).map (trfP base l))) ∧ Hid (∀ j (h : j < fs.length), j < k → trfE base l fs j fs[j] = 0)) (fun x _ => fs.length - (intOf x).toNat)
      case atStart => exact ⟨0, _, Nat.zero_le _, rfl, Below.refl _ _, by omega, hO2, World.ownsRow_nil _ _ _ _, fun _ _ h => by omega⟩
      case round =>
        obtain ⟨k, v, hk, rfl, hbr, hqr, hO, hown, h0⟩ := hrel
        have hXr := hX2.below hbr (by omega)
        have hRr := hR2.below hbr (by omega)
        have hTr := hT2.below hbr (by omega)
        have hBr := hB2.trans (hbr.mono (show p ≤ p + 3 by omega))
        have hrr := hr.below hBr (by omega)
        have hfr := hf.below hBr (by omega)
        by_cases hlt : k < fs.length
        · obtain ⟨b, off, rfl, hblt, hc0⟩ := hfr.int_at hlt
          obtain ⟨b0, off0, eb0, hbp, _⟩ := hf.int_at hlt
          cases eb0
          have HAT := hide (fun (e : Int) (he : trfE base l fs k fs[k] = e) (hn : e ≠ 0) => trfR_at HH.out hlt h0.out he hn)
          have HNX := hide (fun (he : trfE base l fs k fs[k] = 0) j (h : j < fs.length) (hj : j < k + 1) => show trfE base l fs j fs[j] = 0 by
            by_cases e : j = k
            · subst e; exact he
            · exact h0.out j h (by omega))
          have HTK : Hid ((fs.take (k + 1)).map (trfP base l) = (fs.take k).map (trfP base l) ++ [trfP base l fs[k]]) := by show _ = _; rw [List.take_succ_eq_append_getElem hlt, List.map_append]; rfl
          generalize fs[k] = f at hc0 HAT HNX HTK
          have hkI : (k : Int) < (fs.length : Int) := by omega
          by_cases hfq : freqE f = 0
          · have e3 : (freqE f != 0) = false := by simpa using hfq
            have hfb := freqE_zero.1 hfq
            go_upto_region 13 with (first | (go_at_call 40; refine (frequencyErr_c _ _).mono ?_; rintro e_ w_ ⟨rfl, rfl⟩))
            obtain ⟨ob, hob⟩ : ∃ ob, (decide (0 < k) && decide (f ≤ fs.getD (k - 1) 0)) = ob := ⟨_, rfl⟩
            have HOB := hide hob
            clear hob
            go_cut [53] from 24 to 91 (fun t wx => t = .bool ob ∧ Below wr.heap.size wr wx)
            case first =>
              rcases Nat.eq_zero_or_pos k with hk0 | hk0
              · have d1 : decide ((0 : Int) < (k : Int)) = false := decide_eq_false (by omega)
                have d2 : Hid (ob = false) := by show _ = _; rw [← HOB.out, decide_eq_false (by omega)]; rfl
                go_quiet (fail)
                go_wp2
                go_meet
                exact ⟨by rw [d2.out], below_drewN (Below.refl _ _) _⟩
              · obtain ⟨j, hj⟩ : ∃ j, j + 1 = k := ⟨k - 1, by omega⟩
                have d1 : decide ((0 : Int) < (k : Int)) = true := decide_eq_true (by omega)
                obtain ⟨b', off', e', _, hd0⟩ := hfr.int_at (show j < fs.length by omega)
                cases e'
                have d2 : Hid (ob = decide (f ≤ fs[j])) := by show _ = _; rw [← HOB.out, decide_eq_true (by omega), Bool.true_and, show k - 1 = j by omega, getD_at (by omega)]
                generalize fs[j] = f' at hd0 d2
                have v1 : IntKind.i64.wrap ((k : Int) - 1) = (j : Int) := by rw [show (k : Int) - 1 = (j : Int) by omega]; simp (disch := omega) only [IntWalk.i64_in]
                have i1 : (0 : Int) ≤ (j : Int) := by omega
                have i2 : (j : Int) < (fs.length : Int) := by omega
                go_quiet (fail)
                go_wp2
                go_meet
                exact ⟨by rw [d2.out], below_drewN (Below.refl _ _) _⟩
            obtain ⟨rfl, hBc⟩ := hcut
            have hsc := hBc.size
            have hXc := hXr.bel hBc
            have hRc := hRr.bel hBc
            have hTc := hTr.bel hBc
            have hOc := hO.bel hBc
            have hownc := ownsRow_bel hown hBc
            have hBw := bel_tr hBr (by omega) hBc
            have hbrc := hbr.trans (hBc.mono (show p + 3 ≤ wr.heap.size by omega))
            have hrc := hrr.bel hBc
            have hc1 := (hBc.cell (p := ⟨b, off + k, none⟩) hblt).trans hc0
            have hbc : b < wc.heap.size := by omega
            have hqc : q ≤ wc.heap.size := by omega
            clear hBc hXr hRr hTr hO hown hBr hbr hrr hfr hc0 hblt
            cases ob
            · have hok : k = 0 ∨ ¬ f ≤ fs.getD (k - 1) 0 := by
                have := HOB.out
                rw [Bool.and_eq_false_iff, decide_eq_false_iff_not, decide_eq_false_iff_not] at this
                omega
              have HE1 := hide (trfE_rest (base := base) (l := l) (fs := fs) hfq hok)
              clear hok HOB
              have c0 := hXc.cell 0; have c1 := hXc.cell 1; simp only [List.getElem?_cons_zero, List.getElem?_cons_succ] at c0 c1
              have zx := hXc.lt
              by_cases hn : passN l f = l.length
              · have HF := hide (HAT.out 21 (by rw [HE1.out, virtR_open hP hfq hn]; rfl) (by decide))
                have HRF : Hid (∀ W, Rd W A (gs l) → Calls Try.prog 41 #[.agg #[.int .i64 base, .slice A l.length c], .int .i64 f] W fun r w' => r = .returned (.tuple #[.int .i64 0, .int .i64 0, .bool false]) ∧ Below W.heap.size W w') := fun W h => by
                  have := refReflected_c base f A c l W h hP hfb.1 hfb.2
                  rw [if_pos hn] at this
                  exact this
                clear HAT HNX HTK HE1 hn
                go_upto_region 15 with fail
                go_region_held3 (fun w' => (∀ b o, b < wc.heap.size → w'.cell? ⟨b, o, none⟩ = wc.cell? ⟨b, o, none⟩) ∧ Below wc.heap.size wc w')
                  ((refine kp ?_; ((repeat' (first | with_reducible exact Below.refl _ _ | with_reducible exact HB1.out | with_reducible refine Below.drew ?_ | with_reducible refine bel_alloc ?_ ?_ _ | with_reducible refine Below.setCell ?_ ?_ _)); all_goals (first | omega | (simp <;> omega)))))
                  (first
                    | (go_at_call 41; refine (HRF.out _ (hrc.bel (by ((repeat' (first | with_reducible exact Below.refl _ _ | with_reducible exact HB1.out | with_reducible refine Below.drew ?_ | with_reducible refine bel_alloc ?_ ?_ _ | with_reducible refine Below.setCell ?_ ?_ _)); all_goals (first | omega | (simp <;> omega)))))).mono ?_; rintro e w7 ⟨rfl, hb7⟩; have HB1 : Hid (Below wc.heap.size wc w7) := (by refine hide (Below.trans ?_ (hb7.mono ?_)); ((repeat' (first | with_reducible exact Below.refl _ _ | with_reducible exact HB1.out | with_reducible refine Below.drew ?_ | with_reducible refine bel_alloc ?_ ?_ _ | with_reducible refine Below.setCell ?_ ?_ _)); all_goals (first | omega | (simp <;> omega)))); have s1 := HB1.out.size))
                go_upto_region 17 with fail
                have hT7 := hTc.bel HB1.out
                have hR7 := hRc.bel HB1.out
                have hB7 := bel_tr hBw (by omega) HB1.out
                have k0 := hT7.cell 0
                have k1 := hT7.cell 1
                have k2 := hT7.cell 2
                simp only [List.getElem?_cons_zero, List.getElem?_cons_succ] at k0 k1 k2
                have fz0 := hR7.frozen 0
                have fz1 := hR7.frozen 1
                have fz2 := hR7.frozen 2
                have r0 := hR7.cell 0
                have r1 := hR7.cell 1
                have r2 := hR7.cell 2
                simp only [List.getElem?_cons_zero, List.getElem?_cons_succ] at r0 r1 r2
                have zt := hT7.lt
                have zr := hR7.lt
                go_wp2
                obtain ⟨WE, hWE⟩ : ∃ WE, ((w7.setCell ⟨p + 1, 0, none⟩ (.slice none 0 0)).setCell ⟨p + 1, 1, none⟩ (.int .i64 0)).setCell ⟨p + 1, 2, none⟩ (.int .i64 0) = WE := ⟨_, rfl⟩
                rw [hWE]
                have hE : Blk WE (p + 1) 30 [.slice none 0 0, .int .i64 0, .int .i64 0] := by rw [← hWE]; exact ((hR7.set_ 0 _).set_ 1 _).set_ 2 _
                have hBE : Below p w WE := by rw [← hWE]; exact (((hB7).setCell (by show p ≤ p + 1; omega) _).setCell (by show p ≤ p + 1; omega) _).setCell (by show p ≤ p + 1; omega) _
                clear hWE
                have g0 := hE.cell 0; have g1 := hE.cell 1; have g2 := hE.cell 2; simp only [List.getElem?_cons_zero, List.getElem?_cons_succ] at g0 g1 g2
                exact bodyPost_ret (v := .tuple #[.agg #[.slice none 0 0, .int .i64 0, .int .i64 0], .int .i64 k, .int .i64 21]) (by simp [results, Try.results13, go_sem, g0, g1, g2]; try rfl) rfl ⟨⟨none, 0, by rw [HF.out]; rfl, by rw [HF.out]; exact Rd.nil _ _⟩, by rw [hp]; exact hBE⟩
              · have HRF : Hid (∀ W, Rd W A (gs l) → Calls Try.prog 41 #[.agg #[.int .i64 base, .slice A l.length c], .int .i64 f] W fun r w' => r = .returned (.tuple #[.int .i64 (hgt base l (passN l f)), .int .i64 (passN l f), .bool true]) ∧ Below W.heap.size W w') := fun W h => by
                  have := refReflected_c base f A c l W h hP hfb.1 hfb.2
                  rw [if_neg hn] at this
                  exact this
                have HVI := hide (fun W h => refVirtual_c base f A c l W h hP hfb.1 hfb.2 hn)
                have HVR := hide (virtR_ok hP hfq hn)
                obtain ⟨⟨x, y⟩, hxy⟩ : ∃ g, virt base l f = g := ⟨_, rfl⟩
                rw [hxy] at HVI HVR
                dsimp only at HVI
                rw [HVR.out] at HE1
                dsimp only at HE1
                have HTP : Hid (trfP base l f = (f, x, y)) := by show _ = _; unfold trfP; rw [HVR.out]
                clear hn hxy
                generalize hgt base l (passN l f) = hh at HRF
                generalize (passN l f : Int) = pn at HRF
                go_upto_region 15 with fail
                go_region_held3 (fun w' => (∀ b o, b < wc.heap.size → w'.cell? ⟨b, o, none⟩ = wc.cell? ⟨b, o, none⟩) ∧ Below wc.heap.size wc w')
                  ((refine kp ?_; ((repeat' (first | with_reducible exact Below.refl _ _ | with_reducible exact HB1.out | with_reducible refine Below.drew ?_ | with_reducible refine bel_alloc ?_ ?_ _ | with_reducible refine Below.setCell ?_ ?_ _)); all_goals (first | omega | (simp <;> omega)))))
                  (first
                    | (go_at_call 41; refine (HRF.out _ (hrc.bel (by ((repeat' (first | with_reducible exact Below.refl _ _ | with_reducible exact HB1.out | with_reducible refine Below.drew ?_ | with_reducible refine bel_alloc ?_ ?_ _ | with_reducible refine Below.setCell ?_ ?_ _)); all_goals (first | omega | (simp <;> omega)))))).mono ?_; rintro e w7 ⟨rfl, hb7⟩; have HB1 : Hid (Below wc.heap.size wc w7) := (by refine hide (Below.trans ?_ (hb7.mono ?_)); ((repeat' (first | with_reducible exact Below.refl _ _ | with_reducible exact HB1.out | with_reducible refine Below.drew ?_ | with_reducible refine bel_alloc ?_ ?_ _ | with_reducible refine Below.setCell ?_ ?_ _)); all_goals (first | omega | (simp <;> omega)))); have s1 := HB1.out.size))
                go_upto_region 18 with fail
                have hX7 := hXc.bel HB1.out
                have hR7 := hRc.bel HB1.out
                have hT7 := hTc.bel HB1.out
                have hO7 := hOc.bel HB1.out
                have hown7 := ownsRow_bel hownc HB1.out
                have hB7 := bel_tr hBw (by omega) HB1.out
                have hbr7 := hbrc.trans (HB1.out.mono (show p + 3 ≤ wc.heap.size by omega))
                have hr7 := hrc.bel HB1.out
                have hc7 := (HB1.out.cell (p := ⟨b, off + k, none⟩) hbc).trans hc1
                have hb7' : b < w7.heap.size := by omega
                have hq7 : q ≤ w7.heap.size := by omega
                clear c0 c1 zx hXc hRc hTc hOc hownc hBw hbrc hrc hc1 hbc hqc hsc s1 hb7
                have c0 := hX7.cell 0; have c1 := hX7.cell 1; simp only [List.getElem?_cons_zero, List.getElem?_cons_succ] at c0 c1
                have zx := hX7.lt
                go_cut [14] from 24 to 91 (fun t wx => ∃ g : Nat, t = .pointer (some ⟨g, 0, none⟩) ∧ Blk wx g 51 [.int .i64 x, .int .i64 y] ∧ w7.heap.size ≤ g ∧ Below w7.heap.size w7 wx)
                case first =>
                  go_region_held3 (fun w' => (∀ b o, b < w7.heap.size → w'.cell? ⟨b, o, none⟩ = w7.cell? ⟨b, o, none⟩) ∧ Below w7.heap.size w7 w')
                    ((refine kp ?_; ((repeat' (first | with_reducible exact Below.refl _ _ | with_reducible exact HB2.out | with_reducible refine Below.drew ?_ | with_reducible refine bel_alloc ?_ ?_ _ | with_reducible refine Below.setCell ?_ ?_ _)); all_goals (first | omega | (simp <;> omega)))))
                    (first
                      | (go_at_call 42; refine (HVI.out _ (hr7.bel (by ((repeat' (first | with_reducible exact Below.refl _ _ | with_reducible exact HB2.out | with_reducible refine Below.drew ?_ | with_reducible refine bel_alloc ?_ ?_ _ | with_reducible refine Below.setCell ?_ ?_ _)); all_goals (first | omega | (simp <;> omega)))))).mono ?_; rintro e w8 ⟨rfl, hb8⟩; have HB2 : Hid (Below w7.heap.size w7 w8) := (by refine hide (Below.trans ?_ (hb8.mono ?_)); ((repeat' (first | with_reducible exact Below.refl _ _ | with_reducible exact HB2.out | with_reducible refine Below.drew ?_ | with_reducible refine bel_alloc ?_ ?_ _ | with_reducible refine Below.setCell ?_ ?_ _)); all_goals (first | omega | (simp <;> omega)))); have s2 := HB2.out.size; have hA1 := hb8.size; (try (refine (have BA : Blk w8 w7.heap.size 51 [.int .i64 0, .int .i64 0] := ?_; ?_); (focus (refine Blk.bel ?_ hb8; first | exact Blk.new w7 _ [_, _] | exact Blk.new w7.drew _ [_, _]; done)); have BAc0 := BA.cell 0; have BAc1 := BA.cell 1; have BAf0 := BA.frozen 0; have BAf1 := BA.frozen 1; have BAl := BA.lt; simp only [List.getElem?_cons_zero, List.getElem?_cons_succ] at BAc0 BAc1))))
                  all_goals go_wp2
                  all_goals go_meet
                  all_goals refine ⟨_, rfl, (by first | exact Blk.new _ _ [_, _] | exact ((Blk.new _ _ [_, _]).set_ 0 _).set_ 1 _ | exact (BA.set_ 0 _).set_ 1 _), (by first | exact Nat.le_refl _ | omega | (simp [World.setCell]; omega)), ?_⟩
                  all_goals ((repeat' (first | with_reducible exact Below.refl _ _ | with_reducible exact HB2.out | with_reducible refine Below.drew ?_ | with_reducible refine bel_alloc ?_ ?_ _ | with_reducible refine Below.setCell ?_ ?_ _)); all_goals (first | omega | (simp <;> omega)))
                obtain ⟨g, rfl, hG, hgz, hbE⟩ := hcut
                have hse := hbE.size
                have hlt7 := hown7.lt
                have hRe := hR7.bel hbE
                have hTe := hT7.bel hbE
                have hOe := hO7.bel hbE
                have howne := ownsRow_bel hown7 hbE
                have hBe := bel_tr hB7 (by omega) hbE
                have hbre := hbr7.trans (hbE.mono (show p + 3 ≤ w7.heap.size by omega))
                have hce := (hbE.cell (p := ⟨b, off + k, none⟩) hb7').trans hc7
                have hbe' : b < wc.heap.size := by omega
                have hqe : q ≤ wc.heap.size := by omega
                have hgq : q ≤ g := by omega
                clear c0 c1 zx hX7 hR7 hT7 hO7 hown7 hB7 hbr7 hr7 hc7 hb7' hq7 hbE HVI HRF
                have g0 := hG.cell 0; have g1 := hG.cell 1; simp only [List.getElem?_cons_zero, List.getElem?_cons_succ] at g0 g1
                have zg := hG.lt
                by_cases hy : 20000 < y
                · have HF := hide (HAT.out 22 (by rw [HE1.out]; simp [firstE, errIf, hy]) (by decide))
                  have e4 : decide (20000 < y) = true := decide_eq_true hy
                  clear hy HAT HNX HTK HE1
                  go_upto_region 20 with fail
                  have k0 := hTe.cell 0
                  have k1 := hTe.cell 1
                  have k2 := hTe.cell 2
                  simp only [List.getElem?_cons_zero, List.getElem?_cons_succ] at k0 k1 k2
                  have fz0 := hRe.frozen 0
                  have fz1 := hRe.frozen 1
                  have fz2 := hRe.frozen 2
                  have r0 := hRe.cell 0
                  have r1 := hRe.cell 1
                  have r2 := hRe.cell 2
                  simp only [List.getElem?_cons_zero, List.getElem?_cons_succ] at r0 r1 r2
                  have zt := hTe.lt
                  have zr := hRe.lt
                  go_wp2
                  obtain ⟨WE, hWE⟩ : ∃ WE, ((wc.setCell ⟨p + 1, 0, none⟩ (.slice none 0 0)).setCell ⟨p + 1, 1, none⟩ (.int .i64 0)).setCell ⟨p + 1, 2, none⟩ (.int .i64 0) = WE := ⟨_, rfl⟩
                  rw [hWE]
                  have hE : Blk WE (p + 1) 30 [.slice none 0 0, .int .i64 0, .int .i64 0] := by rw [← hWE]; exact ((hRe.set_ 0 _).set_ 1 _).set_ 2 _
                  have hBE : Below p w WE := by rw [← hWE]; exact (((hBe).setCell (by show p ≤ p + 1; omega) _).setCell (by show p ≤ p + 1; omega) _).setCell (by show p ≤ p + 1; omega) _
                  clear hWE
                  have g0 := hE.cell 0; have g1 := hE.cell 1; have g2 := hE.cell 2; simp only [List.getElem?_cons_zero, List.getElem?_cons_succ] at g0 g1 g2
                  exact bodyPost_ret (v := .tuple #[.agg #[.slice none 0 0, .int .i64 0, .int .i64 0], .int .i64 k, .int .i64 22]) (by simp [results, Try.results13, go_sem, g0, g1, g2]; try rfl) rfl ⟨⟨none, 0, by rw [HF.out]; rfl, by rw [HF.out]; exact Rd.nil _ _⟩, by rw [hp]; exact hBE⟩
                · have H1 : Hid (∀ j (h : j < fs.length), j < k + 1 → trfE base l fs j fs[j] = 0) := HNX.out (by rw [HE1.out]; simp [firstE, errIf, hy])
                  have e4 : decide (20000 < y) = false := decide_eq_false hy
                  have HT2 : Hid ((fs.take (k + 1)).map (trfP base l) = (fs.take k).map (trfP base l) ++ [(f, x, y)]) := by show _ = _; rw [HTK.out, HTP.out]
                  clear hy HAT HNX HTK HE1 HTP
                  go_upto_region 21 with fail
                  obtain ⟨LA, lc, rfl⟩ := ownsRow_slice howne
                  have o0 := hOe.cell 0
                  have o1 := hOe.frozen 0
                  simp only [List.getElem?_cons_zero] at o0
                  have zo := hOe.lt
                  refine wp_region_M (fun w' => w'.cell? ⟨p + 3, 0, none⟩ = some (.slice LA k lc) ∧ w'.cell? ⟨b, off + k, none⟩ = some (.int .i64 f) ∧ w'.cell? ⟨g, 0, none⟩ = some (.int .i64 x) ∧ w'.cell? ⟨g, 1, none⟩ = some (.int .i64 y)) 11 (by kernel_rfl) ?_
                  have hSd : wc.drew.cell? ⟨p + 3, 0, none⟩ = some (.slice LA k lc) ∧ wc.drew.cell? ⟨b, off + k, none⟩ = some (.int .i64 f) ∧ wc.drew.cell? ⟨g, 0, none⟩ = some (.int .i64 x) ∧ wc.drew.cell? ⟨g, 1, none⟩ = some (.int .i64 y) := ⟨o0, hce, g0, g1⟩
                  refine AnyM.take (i := 0) (v := ?_) rfl (by kernel_rfl) (by kernel_rfl) (by kernel_rfl) (by kernel_rfl) (fun _ _ _ h => h) (Or.inl ⟨by rfl, ?_⟩) (by assumption) ?_
                  rotate_left 1
                  · (intro w hSw; obtain ⟨hk1, hk2, hk3, hk4⟩ := hSw; go_simp <;> with_reducible rfl)
                  simp only [Act.put, List.getElem_toArray, List.getElem_cons_zero, List.setIfInBounds_toArray, List.set_cons_zero, List.set_cons_succ]
                  refine AnyM.take (i := 1) (v := ?_) rfl (by kernel_rfl) (by kernel_rfl) (by kernel_rfl) (by kernel_rfl) (fun _ _ _ h => h) (Or.inl ⟨by rfl, ?_⟩) (by assumption) ?_
                  rotate_left 1
                  · (intro w hSw; obtain ⟨hk1, hk2, hk3, hk4⟩ := hSw; go_simp <;> with_reducible rfl)
                  simp only [Act.put, List.getElem_toArray, List.getElem_cons_zero, List.getElem_cons_succ, List.setIfInBounds_toArray, List.set_cons_zero, List.set_cons_succ]
                  refine AnyM.take (i := 2) (v := ?_) rfl (by kernel_rfl) (by kernel_rfl) (by kernel_rfl) (by kernel_rfl) (fun _ _ _ h => h) (Or.inl ⟨by rfl, ?_⟩) (by assumption) ?_
                  rotate_left 1
                  · (intro w hSw; obtain ⟨hk1, hk2, hk3, hk4⟩ := hSw; go_simp <;> with_reducible rfl)
                  simp only [Act.put, List.getElem_toArray, List.getElem_cons_zero, List.getElem_cons_succ, List.setIfInBounds_toArray, List.set_cons_zero, List.set_cons_succ]
                  refine AnyM.take (i := 3) (v := ?_) rfl (by kernel_rfl) (by kernel_rfl) (by kernel_rfl) (by kernel_rfl) (fun _ _ _ h => h) (Or.inl ⟨by rfl, ?_⟩) (by assumption) ?_
                  rotate_left 1
                  · (intro w hSw; obtain ⟨hk1, hk2, hk3, hk4⟩ := hSw; go_simp <;> with_reducible rfl)
                  simp only [Act.put, List.getElem_toArray, List.getElem_cons_zero, List.getElem_cons_succ, List.setIfInBounds_toArray, List.set_cons_zero, List.set_cons_succ]
                  refine AnyM.take (i := 4) (v := ?_) rfl (by kernel_rfl) (by kernel_rfl) (by kernel_rfl) (by kernel_rfl) (fun _ _ _ h => h) (Or.inl ⟨by rfl, ?_⟩) (by assumption) ?_
                  rotate_left 1
                  · (intro w hSw; obtain ⟨hk1, hk2, hk3, hk4⟩ := hSw; go_simp <;> with_reducible rfl)
                  simp only [Act.put, List.getElem_toArray, List.getElem_cons_zero, List.getElem_cons_succ, List.setIfInBounds_toArray, List.set_cons_zero, List.set_cons_succ]
                  refine AnyM.take (i := 5) (v := ?_) rfl (by kernel_rfl) (by kernel_rfl) (by kernel_rfl) (by kernel_rfl) (fun _ _ _ h => h) (Or.inl ⟨by rfl, ?_⟩) (by assumption) ?_
                  rotate_left 1
                  · (intro w hSw; obtain ⟨hk1, hk2, hk3, hk4⟩ := hSw; go_simp <;> with_reducible rfl)
                  simp only [Act.put, List.getElem_toArray, List.getElem_cons_zero, List.getElem_cons_succ, List.setIfInBounds_toArray, List.set_cons_zero, List.set_cons_succ]
                  refine AnyM.take (i := 6) (v := ?_) rfl (by kernel_rfl) (by kernel_rfl) (by kernel_rfl) (by kernel_rfl) (fun _ _ _ h => h) (Or.inl ⟨by rfl, ?_⟩) (by assumption) ?_
                  rotate_left 1
                  · (intro w hSw; obtain ⟨hk1, hk2, hk3, hk4⟩ := hSw; go_simp <;> with_reducible rfl)
                  simp only [Act.put, List.getElem_toArray, List.getElem_cons_zero, List.getElem_cons_succ, List.setIfInBounds_toArray, List.set_cons_zero, List.set_cons_succ]
                  refine AnyM.take (i := 7) (v := ?_) rfl (by kernel_rfl) (by kernel_rfl) (by kernel_rfl) (by kernel_rfl) (fun _ _ _ h => h) (Or.inl ⟨by rfl, ?_⟩) (by assumption) ?_
                  rotate_left 1
                  · (intro w hSw; obtain ⟨hk1, hk2, hk3, hk4⟩ := hSw; go_simp <;> with_reducible rfl)
                  simp only [Act.put, List.getElem_toArray, List.getElem_cons_zero, List.getElem_cons_succ, List.setIfInBounds_toArray, List.set_cons_zero, List.set_cons_succ]
                  refine AnyM.next [8] (by kernel_rfl) (by simp) ?_
                  refine NextM.cons rfl (fun K hK => ?_) NextM.nil
                  go_simp
                  obtain ⟨W5, hW5⟩ : ∃ W5, (wc.alloc (.cells #[.int .i64 f, .int .i64 x, .int .i64 y] 55)).drew = W5 := ⟨_, rfl⟩
                  have hb5 : Below wc.heap.size wc W5 := by rw [← hW5]; exact (alloc_bel _ _).drew
                  have hrd5 : Rd W5 (some ⟨wc.heap.size, 0, none⟩) (ps [(f, x, y)]) := by rw [← hW5]; exact (Blk.new wc 55 [.int .i64 f, .int .i64 x, .int .i64 y]).rd (List.prefix_refl _)
                  have hown5 := ownsRow_bel howne hb5
                  have hO5 := hOe.bel hb5
                  have hG5 := hG.bel hb5
                  have hs5 : q ≤ W5.heap.size := by have := hb5.size; omega
                  have hs5' : wc.heap.size ≤ W5.heap.size := hb5.size
                  have hc5 := (hb5.cell (p := ⟨b, off + k, none⟩) (show b < wc.heap.size by omega)).trans hce
                  rw [hW5]
                  clear hW5 hSd
                  try dsimp only
                  refine hK _ _ (fun _ => ⟨hO5.cell 0, hc5, hG5.cell 0, hG5.cell 1⟩) ?_
                  clear hK K
                  refine AnyM.next [9] (by kernel_rfl) (by simp) ?_
                  refine NextM.cons rfl (fun K hK => ?_) NextM.nil
                  refine step_append_rd _ (by rfl) _ _ _ (by rfl) q 55 i0 _ 3 24 Try.underlying28 hi iz0 iz1 iz2 rfl (by decide) (.slice LA k lc) k _ (by rfl) hown5 (some ⟨wc.heap.size, 0, none⟩) 1 1 (ps [(f, x, y)]) (by rfl) (by simp) hrd5 (ps_one _) (by unfold maxLen; omega) (by omega) hs5 ?_
                  intro v6 W6 hown6 hg6
                  obtain ⟨A6, c6, rfl⟩ := ownsRow_slice hown6
                  have hlt5 := hown5.lt
                  have hO6 : Blk W6 (p + 3) 30 [.slice LA k lc, .int .i64 0, .int .i64 0] := (hg6.block (p + 3) hO5.lt (fun e => by have := (hlt5 (p + 3) e.symm).1; omega)).trans hO5
                  have hG6 : Blk W6 g 51 [.int .i64 x, .int .i64 y] := (hg6.block g hG5.lt (fun e => by have := (hlt7 g e.symm).2; omega)).trans hG5
                  have hR6 : Blk W6 (p + 1) 30 [.slice none 0 0, .int .i64 0, .int .i64 0] := (hg6.block (p + 1) (hRe.bel hb5).lt (fun e => by have := (hlt5 (p + 1) e.symm).1; omega)).trans (hRe.bel hb5)
                  have hc6 : W6.cell? ⟨b, off + k, none⟩ = some (.int .i64 f) := (World.cell?_of_block (hg6.block b (by omega) (fun e => by have := (hlt5 b e.symm).1; omega))).trans hc5
                  have hB6 : Below (p + 3) W2 W6 := (hbre.trans (hb5.mono (by omega))).grown hg6 (by omega) (fun j hj => by have := (hlt5 j hj).1; omega)
                  have hq6 : q ≤ W6.heap.size := by have := hg6.size; omega
                  simp only [Act.put, List.getElem_toArray, List.getElem_cons_zero, List.getElem_cons_succ, List.setIfInBounds_toArray, List.set_cons_zero, List.set_cons_succ]
                  refine hK _ _ (fun _ => ⟨hO6.cell 0, hc6, hG6.cell 0, hG6.cell 1⟩) ?_
                  clear hK K
                  refine AnyM.next [10] (by kernel_rfl) (by simp) ?_
                  refine NextM.cons rfl (fun K hK => ?_) NextM.nil
                  go_simp
                  refine hK _ _ (fun _ => ⟨hO6.cell 0, hc6, hG6.cell 0, hG6.cell 1⟩) ?_
                  clear hK K
                  have m0 := hO6.cell 0
                  have m1 := hO6.frozen 0
                  have m2 := hO6.lt
                  simp only [List.getElem?_cons_zero, List.getElem?_cons_succ] at m0
                  refine AnyM.next [11] (by kernel_rfl) (by simp) ?_
                  refine NextM.cons rfl (fun K hK => ?_) NextM.nil
                  go_simp
                  refine hK _ _ (fun h => by simp at h) ?_
                  clear hK K
                  refine AnyM.done (by kernel_rfl) ?_ _
                  go_wp2
                  go_roundw
                  case rel => exact ⟨k + 1, _, by omega, by go_num, hB6.setCell (Nat.le_refl _) _, by simpa [World.setCell] using hq6, hO6.set_ 0 _, by rw [HT2.out, ps_append]; exact own_far (p := ⟨p + 3, 0, none⟩) hown6 (by show p + 3 < q; omega) _, H1⟩
                  case measure => simp [intOf]; omega
            · have hk0 : 0 < k ∧ f ≤ fs.getD (k - 1) 0 := by
                have := HOB.out
                rw [Bool.and_eq_true, decide_eq_true_eq, decide_eq_true_eq] at this
                exact this
              have HF := hide (HAT.out 9 (trfE_prev hfq hk0.1 hk0.2) (by decide))
              clear HAT HNX HTK hk0 HOB hfq
              go_upto_region 14 with fail
              have k0 := hTc.cell 0
              have k1 := hTc.cell 1
              have k2 := hTc.cell 2
              simp only [List.getElem?_cons_zero, List.getElem?_cons_succ] at k0 k1 k2
              have fz0 := hRc.frozen 0
              have fz1 := hRc.frozen 1
              have fz2 := hRc.frozen 2
              have r0 := hRc.cell 0
              have r1 := hRc.cell 1
              have r2 := hRc.cell 2
              simp only [List.getElem?_cons_zero, List.getElem?_cons_succ] at r0 r1 r2
              have zt := hTc.lt
              have zr := hRc.lt
              go_wp2
              obtain ⟨WE, hWE⟩ : ∃ WE, ((wc.setCell ⟨p + 1, 0, none⟩ (.slice none 0 0)).setCell ⟨p + 1, 1, none⟩ (.int .i64 0)).setCell ⟨p + 1, 2, none⟩ (.int .i64 0) = WE := ⟨_, rfl⟩
              rw [hWE]
              have hE : Blk WE (p + 1) 30 [.slice none 0 0, .int .i64 0, .int .i64 0] := by rw [← hWE]; exact ((hRc.set_ 0 _).set_ 1 _).set_ 2 _
              have hBE : Below p w WE := by rw [← hWE]; exact (((hBw).setCell (by show p ≤ p + 1; omega) _).setCell (by show p ≤ p + 1; omega) _).setCell (by show p ≤ p + 1; omega) _
              clear hWE
              have g0 := hE.cell 0; have g1 := hE.cell 1; have g2 := hE.cell 2; simp only [List.getElem?_cons_zero, List.getElem?_cons_succ] at g0 g1 g2
              exact bodyPost_ret (v := .tuple #[.agg #[.slice none 0 0, .int .i64 0, .int .i64 0], .int .i64 k, .int .i64 9]) (by simp [results, Try.results13, go_sem, g0, g1, g2]; try rfl) rfl ⟨⟨none, 0, by rw [HF.out]; rfl, by rw [HF.out]; exact Rd.nil _ _⟩, by rw [hp]; exact hBE⟩
          · have HF := hide (HAT.out (freqE f) (trfE_freq hfq) hfq)
            have e3 : (freqE f != 0) = true := by simpa using hfq
            clear hfq HAT HNX HTK
            go_upto_region 12 with (first | (go_at_call 40; refine (frequencyErr_c _ _).mono ?_; rintro e_ w_ ⟨rfl, rfl⟩))
            have k0 := hTr.cell 0
            have k1 := hTr.cell 1
            have k2 := hTr.cell 2
            simp only [List.getElem?_cons_zero, List.getElem?_cons_succ] at k0 k1 k2
            have fz0 := hRr.frozen 0
            have fz1 := hRr.frozen 1
            have fz2 := hRr.frozen 2
            have r0 := hRr.cell 0
            have r1 := hRr.cell 1
            have r2 := hRr.cell 2
            simp only [List.getElem?_cons_zero, List.getElem?_cons_succ] at r0 r1 r2
            have zt := hTr.lt
            have zr := hRr.lt
            go_wp2
            obtain ⟨WE, hWE⟩ : ∃ WE, ((wr.setCell ⟨p + 1, 0, none⟩ (.slice none 0 0)).setCell ⟨p + 1, 1, none⟩ (.int .i64 0)).setCell ⟨p + 1, 2, none⟩ (.int .i64 0) = WE := ⟨_, rfl⟩
            rw [hWE]
            have hE : Blk WE (p + 1) 30 [.slice none 0 0, .int .i64 0, .int .i64 0] := by rw [← hWE]; exact ((hRr.set_ 0 _).set_ 1 _).set_ 2 _
            have hBE : Below p w WE := by rw [← hWE]; exact (((hBr).setCell (by show p ≤ p + 1; omega) _).setCell (by show p ≤ p + 1; omega) _).setCell (by show p ≤ p + 1; omega) _
            clear hWE
            have g0 := hE.cell 0; have g1 := hE.cell 1; have g2 := hE.cell 2; simp only [List.getElem?_cons_zero, List.getElem?_cons_succ] at g0 g1 g2
            exact bodyPost_ret (v := .tuple #[.agg #[.slice none 0 0, .int .i64 0, .int .i64 0], .int .i64 k, .int .i64 (freqE f)]) (by simp [results, Try.results13, go_sem, g0, g1, g2]; try rfl) rfl ⟨⟨none, 0, by rw [HF.out]; rfl, by rw [HF.out]; exact Rd.nil _ _⟩, by rw [hp]; exact hBE⟩
        · obtain rfl : k = fs.length := by omega
          have HF := hide (trfR_all (base := base) (l := l) HH.out (fun j h => h0.out j h h))
          rw [List.take_of_length_le (Nat.le_refl _)] at hown
          obtain ⟨LA, lc, rfl⟩ := ownsRow_slice hown
          have o0 := hO.cell 0; have o1 := hO.cell 1; have o2 := hO.cell 2; simp only [List.getElem?_cons_zero, List.getElem?_cons_succ] at o0 o1 o2
          have fz0 := hRr.frozen 0
          have fz1 := hRr.frozen 1
          have fz2 := hRr.frozen 2
          have r0 := hRr.cell 0; have r1 := hRr.cell 1; have r2 := hRr.cell 2; simp only [List.getElem?_cons_zero, List.getElem?_cons_succ] at r0 r1 r2
          have zo := hO.lt
          have zr := hRr.lt
          go_wp2
          obtain ⟨WE, hWE⟩ : ∃ WE, ((wr.setCell ⟨p + 1, 0, none⟩ (.slice LA fs.length lc)).setCell ⟨p + 1, 1, none⟩ (.int .i64 0)).setCell ⟨p + 1, 2, none⟩ (.int .i64 0) = WE := ⟨_, rfl⟩
          rw [hWE]
          have hE : Blk WE (p + 1) 30 [.slice LA fs.length lc, .int .i64 0, .int .i64 0] := by rw [← hWE]; exact ((hRr.set_ 0 _).set_ 1 _).set_ 2 _
          have hBE : Below p w WE := by rw [← hWE]; exact ((hBr.setCell (by show p ≤ p + 1; omega) _).setCell (by show p ≤ p + 1; omega) _).setCell (by show p ≤ p + 1; omega) _
          have hrE : Rd WE LA (ps (fs.map (trfP base l))) := by rw [← hWE]; exact Rd.of_own (own_far (own_far (own_far hown (p := ⟨p + 1, 0, none⟩) (by show p + 1 < q; omega) _) (p := ⟨p + 1, 1, none⟩) (by show p + 1 < q; omega) _) (p := ⟨p + 1, 2, none⟩) (by show p + 1 < q; omega) _)
          clear hWE
          have g0 := hE.cell 0; have g1 := hE.cell 1; have g2 := hE.cell 2; simp only [List.getElem?_cons_zero, List.getElem?_cons_succ] at g0 g1 g2
          exact bodyPost_ret (v := .tuple #[.agg #[.slice LA fs.length lc, .int .i64 0, .int .i64 0], .int .i64 0, .int .i64 0]) (by simp [results, Try.results13, go_sem, g0, g1, g2]; try rfl) rfl ⟨⟨LA, lc, by rw [HF.out, List.length_map], by rw [HF.out]; exact hrE⟩, by rw [hp]; exact hBE⟩
end Go.Proofs.Ytdeehodekilaiaa
