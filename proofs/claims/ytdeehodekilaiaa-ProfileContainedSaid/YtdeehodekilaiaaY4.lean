/- Contracts: the fit of a trace, as the reference has it: thicknesses are tried one by one. -/
import Derived.Test.YtdeehodekilaiaaY0
import Derived.Test.YtdeehodekilaiaaY3
import Derived.Test.YtdeehodekilaiaaU3
import Derived.Test.YtdeehodekilaiaaF14
set_option linter.unusedSimpArgs false
set_option linter.unusedVariables false
namespace Go.Proofs.Ytdeehodekilaiaa
open Go.RowKit
set_option maxRecDepth 100000

set_option maxHeartbeats 4000000 in
theorem refFitted_c (A : Option Addr) (c : Nat) (after width : Int) (l : List PT) (w : World) (hr : Rd w A (ps l)) (hT : Tr l after width) :
    Calls Try.prog 27 #[.agg #[.slice A l.length c, .int .i64 after, .int .i64 width]] w fun r w' => (∃ A' c', r = .returned (.tuple #[.agg #[.int .i64 (fitRes l width).1, .slice A' (fitRes l width).2.1.length c'], .int .i64 (fitRes l width).2.2.1, .int .i64 (fitRes l width).2.2.2]) ∧ Rd w' A' (gs (fitRes l width).2.1)) ∧ Below w.heap.size w w' := by
  have hn0 := hT.n0
  have hn8 := hT.n1
  obtain ⟨W0, hW0⟩ : ∃ W0, (w.alloc (.cells #[.slice A l.length c, .int .i64 after, .int .i64 width] 30)).alloc (.cells #[.int .i64 0, .slice none 0 0] 24) = W0 := ⟨_, rfl⟩
  obtain ⟨p, hp⟩ : ∃ p, w.heap.size = p := ⟨_, rfl⟩
  have HW := hide hW0
  clear hW0
  go_enter Try.func27, Try.ntmps27
  go_upto_region 1 with fail
  rw [HW.out]
  go_upto_region 2 with fail
  obtain ⟨W1, hW1⟩ : ∃ W1, W0.alloc (.cells #[.int .i64 0, .slice none 0 0] 24) = W1 := ⟨_, rfl⟩
  obtain ⟨hs1, hX1, hR1, hT1, hB1⟩ := three_new w W1 _ _ _ [_, _, _] [_, _] [_, _] (by rw [← hW1, ← HW.out])
  rw [hp] at hs1 hX1 hR1 hT1 hB1
  have e0 : W0.heap.size = p + 2 := by rw [← HW.out, ← hp]; simp
  rw [hW1, e0]
  clear hW1 e0
  have c0 := hX1.cell 0; have c1 := hX1.cell 1; have c2 := hX1.cell 2; simp only [List.getElem?_cons_zero, List.getElem?_cons_succ] at c0 c1 c2
  have z0 := hX1.lt
  have hr1 := hr.below hB1 (by omega)
  by_cases hw : 0 < width
  · have HF : Hid (fitRes l width = (0, [], 0, 15)) := by show _ = _; unfold fitRes; rw [if_pos hw]
    have e1 : decide (0 < width) = true := decide_eq_true hw
    clear hw
    go_upto_region 3 with fail
    have k0 := hT1.cell 0
    have k1 := hT1.cell 1
    simp only [List.getElem?_cons_zero, List.getElem?_cons_succ] at k0 k1
    have fz0 := hR1.frozen 0
    have fz1 := hR1.frozen 1
    have r0 := hR1.cell 0
    have r1 := hR1.cell 1
    simp only [List.getElem?_cons_zero, List.getElem?_cons_succ] at r0 r1
    have zt := hT1.lt
    have zr := hR1.lt
    go_wp2
    obtain ⟨WE, hWE⟩ : ∃ WE, (W1.setCell ⟨p + 1, 0, none⟩ (.int .i64 0)).setCell ⟨p + 1, 1, none⟩ (.slice none 0 0) = WE := ⟨_, rfl⟩
    rw [hWE]
    have hE : Blk WE (p + 1) 24 [.int .i64 0, .slice none 0 0] := by rw [← hWE]; exact (hR1.set_ 0 _).set_ 1 _
    have hBE : Below p w WE := by rw [← hWE]; exact ((hB1).setCell (by show p ≤ p + 1; omega) _).setCell (by show p ≤ p + 1; omega) _
    clear hWE
    have g0 := hE.cell 0; have g1 := hE.cell 1; simp only [List.getElem?_cons_zero, List.getElem?_cons_succ] at g0 g1
    exact bodyPost_ret (v := .tuple #[.agg #[.int .i64 0, .slice none 0 0], .int .i64 0, .int .i64 15]) (by simp [results, Try.results27, go_sem, g0, g1]; try rfl) rfl (by first | exact ⟨⟨none, 0, by rw [HF.out]; rfl, by rw [HF.out]; exact Rd.nil _ _⟩, by rw [hp]; exact hBE⟩ | exact ⟨⟨none, ⟨0, by rw [HF.out]; rfl⟩, by rw [HF.out]; exact Rd.nil _ _⟩, hBE⟩)
  · have e1 : decide (0 < width) = false := decide_eq_false hw
    obtain ⟨b, off, rfl, hblt, _, x1, _⟩ := hr1.p_at (k := 0) (by omega)
    rw [← getD_at (show 0 < l.length by omega) P0, show (l.getD 0 P0).2.1 = plo l 0 from rfl] at x1
    simp only [Nat.zero_mul, Nat.add_zero] at x1
    have i3 : 0 < l.length := by omega
    by_cases h5 : 500 < plo l 0
    · have HF : Hid (fitRes l width = (0, [], 0, 22)) := by show _ = _; unfold fitRes; rw [if_neg hw, if_pos h5]
      have e2 : decide (500 < plo l 0) = true := decide_eq_true h5
      clear hw h5
      go_upto_region 5 with fail
      have k0 := hT1.cell 0
      have k1 := hT1.cell 1
      simp only [List.getElem?_cons_zero, List.getElem?_cons_succ] at k0 k1
      have fz0 := hR1.frozen 0
      have fz1 := hR1.frozen 1
      have r0 := hR1.cell 0
      have r1 := hR1.cell 1
      simp only [List.getElem?_cons_zero, List.getElem?_cons_succ] at r0 r1
      have zt := hT1.lt
      have zr := hR1.lt
      go_wp2
      obtain ⟨WE, hWE⟩ : ∃ WE, (W1.setCell ⟨p + 1, 0, none⟩ (.int .i64 0)).setCell ⟨p + 1, 1, none⟩ (.slice none 0 0) = WE := ⟨_, rfl⟩
      rw [hWE]
      have hE : Blk WE (p + 1) 24 [.int .i64 0, .slice none 0 0] := by rw [← hWE]; exact (hR1.set_ 0 _).set_ 1 _
      have hBE : Below p w WE := by rw [← hWE]; exact ((hB1).setCell (by show p ≤ p + 1; omega) _).setCell (by show p ≤ p + 1; omega) _
      clear hWE
      have g0 := hE.cell 0; have g1 := hE.cell 1; simp only [List.getElem?_cons_zero, List.getElem?_cons_succ] at g0 g1
      exact bodyPost_ret (v := .tuple #[.agg #[.int .i64 0, .slice none 0 0], .int .i64 0, .int .i64 22]) (by simp [results, Try.results27, go_sem, g0, g1]; try rfl) rfl (by first | exact ⟨⟨none, 0, by rw [HF.out]; rfl, by rw [HF.out]; exact Rd.nil _ _⟩, by rw [hp]; exact hBE⟩ | exact ⟨⟨none, ⟨0, by rw [HF.out]; rfl⟩, by rw [HF.out]; exact Rd.nil _ _⟩, hBE⟩)
    · have e2 : decide (500 < plo l 0) = false := decide_eq_false h5
      have HRS : Hid (fitRes l width = if (fit l (l.length - 1)).2.2 = 0 then (plo l 0, (fit l (l.length - 1)).1 ++ [(pf l (l.length - 1) * pf l (l.length - 1), 1)], 0, 0) else (0, [], ((fit l (l.length - 1)).2.1 : Int), (fit l (l.length - 1)).2.2)) := by show _ = _; unfold fitRes; rw [if_neg hw, if_neg h5]
      have h5' : plo l 0 ≤ 500 := by omega
      clear hw h5
      obtain ⟨l0, hl0⟩ : ∃ x, plo l 0 = x := ⟨_, rfl⟩
      rw [hl0] at x1 e2
      have HL0 := hide hl0
      go_upto_region 8 with fail
      obtain ⟨W2, hW2⟩ : ∃ W2, W1.alloc (.cells #[.int .i64 l0, .slice none 0 0] 24) = W2 := ⟨_, rfl⟩
      have hb2 : Below W1.heap.size W1 W2 := by rw [← hW2]; exact alloc_bel _ _
      have hO2 : Blk W2 (p + 3) 24 [.int .i64 l0, .slice none 0 0] := by rw [← hW2, ← hs1]; exact Blk.new W1 _ [_, _]
      have hs2 : W2.heap.size = p + 4 := by rw [← hW2]; simp [hs1]
      rw [hW2]
      clear hW2 x1 c0 c1 c2 z0 hblt
      have hX2 := hX1.bel hb2
      have hR2 := hR1.bel hb2
      have hT2 := hT1.bel hb2
      have hB2 := bel_tr hB1 (by omega) hb2
      clear hX1 hR1 hT1 hB1 hb2 hs1 hr1
      obtain ⟨N, hN⟩ : ∃ N, l.length - 1 = N := ⟨_, rfl⟩
      rw [hN] at HRS
      have hN1 : l.length ≤ N + 1 := by omega
      have hN2 : N + 1 ≤ l.length := by omega
      have HNN : Hid (l.length = N + 1) := by show _ = _; omega
      clear hN
      go_wp2
      go_loopw [8] (fun x wr => ∃ (k : Nat) (A' : Option Addr) (c' : Nat), k ≤ N ∧ x = .int .i64 k ∧ Below (p + 3) W2 wr ∧ p + 4 ≤ wr.heap.size ∧ Blk wr (p + 3) 24 [.int .i64 l0, .slice A' k c'] ∧ RdT wr 47 A' (gs (fit l k).1) ∧ Hid ((fit l k).2.2 = 0)) (fun x _ => N - (intOf x).toNat)
      case atStart => exact ⟨0, none, 0, Nat.zero_le _, rfl, Below.refl _ _, by omega, hO2, ⟨Rd.nil _ _, fun b off e => by cases e⟩, rfl⟩
      case round =>
        obtain ⟨k, A', c', hk, rfl, hbr, hqr, hO, hA, h0⟩ := hrel
        have hXr := hX2.below hbr (by omega)
        have hRr := hR2.below hbr (by omega)
        have hTr := hT2.below hbr (by omega)
        have hBr := hB2.trans (hbr.mono (show p ≤ p + 3 by omega))
        have hrr := hr.below hBr (by omega)
        have c0 := hXr.cell 0; have c1 := hXr.cell 1; have c2 := hXr.cell 2; simp only [List.getElem?_cons_zero, List.getElem?_cons_succ] at c0 c1 c2
        have z0 := hXr.lt
        by_cases hlt : k < N
        · have hk1 : k + 1 < l.length := by omega
          obtain ⟨b', off', e', hblt, y0, y1, y2⟩ := hrr.p_at hk1
          cases e'
          have HLN := hide (fit_length h0.out)
          have HFO := hide (fit_ok hT (k := k) (by omega))
          have HNX := hide (fun h2 => fit_next (l := l) h0.out h2)
          have HSP := hide (fun (e : Int) h2 he => fit_stop (l := l) h0.out (e := e) h2 he)
          have HPT := hide (hT.pt (k + 1) hk1)
          rw [← getD_at hk1 P0] at y0 y1 y2
          have HF1 : Hid ((l.getD (k + 1) P0).1 = pf l (k + 1)) := rfl
          have HF2 : Hid ((l.getD (k + 1) P0).2.1 = plo l (k + 1)) := rfl
          have HF3 : Hid ((l.getD (k + 1) P0).2.2 = phi l (k + 1)) := rfl
          rw [HF1.out] at y0
          rw [HF2.out] at y1
          rw [HF3.out] at y2
          clear HF1 HF2 HF3
          have u1 : IntKind.i64.wrap ((k : Int) + 1) = (k : Int) + 1 := by simp (disch := omega) only [IntWalk.i64_in]
          have u2 : ((k : Int) + 1).toNat = k + 1 := by omega
          have u3 : (0 : Int) ≤ (k : Int) + 1 := by omega
          have u4 : (k : Int) + 1 < (l.length : Int) := by omega
          have e3 : decide ((k : Int) + 1 < (l.length : Int)) = true := decide_eq_true u4
          go_upto_region 12 with fail
          obtain ⟨wo, rfl⟩ : ∃ wo : World, wo = wr := ⟨_, rfl⟩
          obtain ⟨X, hXX⟩ : ∃ X, wo.heap.size = X := ⟨_, rfl⟩
          obtain ⟨acc, hacc⟩ : ∃ acc, (fit l k).1 = acc := ⟨_, rfl⟩
          rw [hacc] at hA HLN HFO HNX HSP
          clear hacc
          have hlen := HLN.out
          have HT0 := hide (fitT_nonneg hT (acc := acc) (by omega))
          obtain ⟨T, hTT⟩ : ∃ T, fitT l acc = T := ⟨_, rfl⟩
          rw [hTT] at HT0 HNX
          have HTT := hide hTT
          clear hTT
          have hT0 := HT0.out
          obtain ⟨W3, hW3⟩ : ∃ W3, wo.alloc (.cells #[.int .i64 (pf l (k + 1)), .int .i64 (plo l (k + 1)), .int .i64 (phi l (k + 1))] 55) = W3 := ⟨_, rfl⟩
          have hb3 : Below wo.heap.size wo W3 := by rw [← hW3]; exact alloc_bel _ _
          have hXb : Blk W3 X 55 [.int .i64 (pf l (k + 1)), .int .i64 (plo l (k + 1)), .int .i64 (phi l (k + 1))] := by rw [← hW3, ← hXX]; exact Blk.new wo _ [_, _, _]
          have hO3 := hO.bel hb3
          have hA3 := hA.bel hb3
          have hbr3 : Below (p + 3) W2 W3 := hbr.trans (hb3.mono (by omega))
          have hXp : p + 4 ≤ X := by omega
          rw [hW3, hXX]
          clear hW3 c0 c1 c2 z0 y0 y1 y2 hXr hRr hTr hBr hrr hO hA hbr hb3 hblt
          go_wp2
          go_loopw [10, 11] (fun fd x wi => ∃ d : Nat, d ≤ 501 ∧ x = .int .i64 d ∧ Below (p + 3) W2 wi ∧ Blk wi X 55 [.int .i64 (pf l (k + 1)), .int .i64 (plo l (k + 1)), .int .i64 (phi l (k + 1))] ∧ ((fd = .bool false ∧ (d : Int) ≤ T ∧ Blk wi (p + 3) 24 [.int .i64 l0, .slice A' k c'] ∧ RdT wi 47 A' (gs acc)) ∨ (fd = .bool true ∧ Hid (fitE l acc = 0 ∧ T ≤ 500) ∧ ∃ A2 c2, Blk wi (p + 3) 24 [.int .i64 l0, .slice A2 (k + 1) c2] ∧ RdT wi 47 A2 (gs (acc ++ [(pf l k * pf l k, T)]))))) (fun _ x _ => 501 - (intOf x).toNat)
          case atStart => exact ⟨0, by omega, rfl, hbr3, hXb, .inl ⟨rfl, by omega, hO3, hA3⟩⟩
          case round =>
            obtain ⟨d, hd, rfl, hbr, hXr, hway⟩ := hrel
            rcases hway with ⟨rfl, hdT, hO, hA⟩ | ⟨rfl, HE, A2, c2, hO, hA⟩
            · have hRr := hR2.below hbr (by omega)
              have hTr := hT2.below hbr (by omega)
              have hBr := hB2.trans (hbr.mono (show p ≤ p + 3 by omega))
              have HST := hide (fun (e : Int) (h2 : fitE l acc = e) (he : e ≠ 0) => show fitRes l width = (0, [], (k : Int) + 1, e) by
                have h3 := HSP.out e h2 he
                have h4 := fit_stays (l := l) (k := k + 1) (j := N) (by rw [h3]; exact he) (by omega)
                rw [HRS.out, h4, h3, if_neg he]
                rfl)
              by_cases hd5 : d ≤ 500
              · have e4 : decide ((d : Int) ≤ 500) = true := decide_eq_true (by omega)
                have hXX2 := hX2.below hbr (by omega)
                have hrr := hr.below hBr (by omega)
                obtain ⟨b', off', e', hblt, y0, _, _⟩ := hrr.p_at (show k < l.length by omega)
                cases e'
                rw [← getD_at (show k < l.length by omega) P0, show (l.getD k P0).1 = pf l k from rfl] at y0
                have hkI : (k : Int) < (l.length : Int) := by omega
                have hpk := hT.pt k (by omega)
                have HWI : Hid (∀ W, Rd W A' (gs acc) → Calls Try.prog 53 #[.agg #[.int .i64 l0, .slice A' k c'], .int .i64 (pf l k), .int .i64 (d : Int)] W fun r w' => (∃ A1 c1, r = .returned (.agg #[.int .i64 l0, .slice A1 (k + 1) c1]) ∧ RdT w' 47 A1 (gs (acc ++ [(pf l k * pf l k, (d : Int))]))) ∧ Below W.heap.size W w') := fun W h => by
                  have := with_c l0 (pf l k) d A' c' acc W h (by omega) (by omega) hpk.2.1
                  rw [hlen] at this
                  exact this
                have o0 := hO.cell 0; have o1 := hO.cell 1; simp only [List.getElem?_cons_zero, List.getElem?_cons_succ] at o0 o1
                have x0 := hXX2.cell 0; have x1 := hXX2.cell 1; have x2 := hXX2.cell 2; simp only [List.getElem?_cons_zero, List.getElem?_cons_succ] at x0 x1 x2
                have zo := hO.lt
                have zx := hXX2.lt
                go_upto_region 16 with fail
                go_cut [12] from 49 to 88 (fun t wx => ∃ (g : Nat) (A1 : Option Addr) (c1 : Nat), t = .pointer (some ⟨g, 0, none⟩) ∧ wr.heap.size ≤ g ∧ Blk wx g 24 [.int .i64 l0, .slice A1 (k + 1) c1] ∧ RdT wx 47 A1 (gs (acc ++ [(pf l k * pf l k, (d : Int))])) ∧ Below wr.heap.size wr wx)
                case first =>
                  refine wp_region_held (S := fun w' => (∀ b o, b < wr.heap.size → w'.cell? ⟨b, o, none⟩ = wr.cell? ⟨b, o, none⟩) ∧ Below wr.heap.size wr w') (by kernel_rfl) ?_
                  have hSd : (∀ b o, b < wr.heap.size → wr.drew.cell? ⟨b, o, none⟩ = wr.cell? ⟨b, o, none⟩) ∧ Below wr.heap.size wr wr.drew := kp (Below.refl _ _).drew
                  change wpAnyH _ _ _ _ _ _ _ _ wr.drew
                  refine wpAnyH_take (i := 0) (v := ?_) rfl (by kernel_rfl) (by kernel_rfl) (by kernel_rfl) (fun _ _ _ h => h) (Or.inl ⟨by kernel_rfl, ?_⟩) (by assumption) ?_
                  rotate_left 1
                  · (intro w hSw; obtain ⟨hk1, hk2⟩ := hSw; go_simp <;> with_reducible rfl)
                  simp only [Act.put, List.getElem_toArray, List.getElem_cons_zero, List.setIfInBounds_toArray, List.set_cons_zero, List.set_cons_succ]
                  refine wpAnyH_take (i := 1) (v := ?_) rfl (by kernel_rfl) (by kernel_rfl) (by kernel_rfl) (fun _ _ _ h => h) (Or.inl ⟨by kernel_rfl, ?_⟩) (by assumption) ?_
                  rotate_left 1
                  · (intro w hSw; obtain ⟨hk1, hk2⟩ := hSw; go_simp <;> with_reducible rfl)
                  simp only [Act.put, List.getElem_toArray, List.getElem_cons_zero, List.getElem_cons_succ, List.setIfInBounds_toArray, List.set_cons_zero, List.set_cons_succ]
                  refine wpAnyH_take (i := 2) (v := ?_) rfl (by kernel_rfl) (by kernel_rfl) (by kernel_rfl) (fun _ _ _ h => h) (Or.inl ⟨by kernel_rfl, ?_⟩) (by assumption) ?_
                  rotate_left 1
                  · (intro w hSw; obtain ⟨hk1, hk2⟩ := hSw; go_simp <;> with_reducible rfl)
                  simp only [Act.put, List.getElem_toArray, List.getElem_cons_zero, List.getElem_cons_succ, List.setIfInBounds_toArray, List.set_cons_zero, List.set_cons_succ]
                  refine wpAnyH_take (i := 3) (v := ?_) rfl (by kernel_rfl) (by kernel_rfl) (by kernel_rfl) (fun _ _ _ h => h) (Or.inl ⟨by kernel_rfl, ?_⟩) (by assumption) ?_
                  rotate_left 1
                  · (intro w hSw; obtain ⟨hk1, hk2⟩ := hSw; go_simp <;> with_reducible rfl)
                  simp only [Act.put, List.getElem_toArray, List.getElem_cons_zero, List.getElem_cons_succ, List.setIfInBounds_toArray, List.set_cons_zero, List.set_cons_succ]
                  refine wpAnyH_take (i := 4) (v := ?_) rfl (by kernel_rfl) (by kernel_rfl) (by kernel_rfl) (fun _ _ _ h => h) (Or.inl ⟨by kernel_rfl, ?_⟩) (by assumption) ?_
                  rotate_left 1
                  · (intro w hSw; obtain ⟨hk1, hk2⟩ := hSw; go_simp <;> with_reducible rfl)
                  simp only [Act.put, List.getElem_toArray, List.getElem_cons_zero, List.getElem_cons_succ, List.setIfInBounds_toArray, List.set_cons_zero, List.set_cons_succ]
                  refine wpAnyH_take (i := 5) (v := ?_) rfl (by kernel_rfl) (by kernel_rfl) (by kernel_rfl) (fun _ _ _ h => h) (Or.inl ⟨by kernel_rfl, ?_⟩) (by assumption) ?_
                  rotate_left 1
                  · (intro w hSw; obtain ⟨hk1, hk2⟩ := hSw; go_simp <;> with_reducible rfl)
                  simp only [Act.put, List.getElem_toArray, List.getElem_cons_zero, List.getElem_cons_succ, List.setIfInBounds_toArray, List.set_cons_zero, List.set_cons_succ]
                  refine wpAnyH_take (i := 6) (v := ?_) rfl (by kernel_rfl) (by kernel_rfl) (by kernel_rfl) (fun _ _ _ h => h) (Or.inl ⟨by kernel_rfl, ?_⟩) (by assumption) ?_
                  rotate_left 1
                  · (intro w hSw; obtain ⟨hk1, hk2⟩ := hSw; go_simp <;> with_reducible rfl)
                  simp only [Act.put, List.getElem_toArray, List.getElem_cons_zero, List.getElem_cons_succ, List.setIfInBounds_toArray, List.set_cons_zero, List.set_cons_succ]
                  refine wpAnyH_take (i := 7) (v := ?_) rfl (by kernel_rfl) (by kernel_rfl) (by kernel_rfl) (fun _ _ _ h => h) (Or.inl ⟨by kernel_rfl, ?_⟩) (by assumption) ?_
                  rotate_left 1
                  · (intro w hSw; obtain ⟨hk1, hk2⟩ := hSw; go_simp <;> with_reducible rfl)
                  simp only [Act.put, List.getElem_toArray, List.getElem_cons_zero, List.getElem_cons_succ, List.setIfInBounds_toArray, List.set_cons_zero, List.set_cons_succ]
                  refine nextH2 (i := 8) (j := 9) (by kernel_rfl) rfl rfl (fun K hK => ?_) (fun K hK => ?_)
                  · go_simp
                    refine (HWI.out _ hA.1.drew).mono ?_
                    rintro e w7 ⟨⟨A1, c1, rfl, hA1⟩, hb7⟩
                    have hb7' := bel_tr hSd.2 hSd.2.size hb7
                    try dsimp only
                    refine hK _ _ (kp hb7') ?_
                    clear hK K hSd hb7
                    refine nextH (i := 9) (by kernel_rfl) rfl (fun K hK => ?_)
                    go_simp
                    have hz7 := hb7'.size
                    have hb8 := bel_alloc hb7' hz7 (.cells #[.int .i64 0, .slice none 0 0] 24)
                    have hG8 := Blk.new w7 24 [.int .i64 0, .slice none 0 0]
                    have hA8 := hA1.bel (alloc_bel w7 (.cells #[.int .i64 0, .slice none 0 0] 24))
                    refine hK _ _ (kp hb8) ?_
                    clear hK K
                    have g0 := hG8.cell 0; have g1 := hG8.cell 1; simp only [List.getElem?_cons_zero, List.getElem?_cons_succ] at g0 g1
                    have g2 := hG8.frozen 0
                    have g3 := hG8.frozen 1
                    have g4 := hG8.lt
                    refine nextH (i := 10) (by kernel_rfl) rfl (fun K hK => ?_)
                    go_simp
                    have hb9 := bel_alloc hb7' hz7 (.cells #[.int .i64 l0, .slice A1 (k + 1) c1] 24)
                    refine hK _ _ (kp hb9) ?_
                    clear hK K
                    refine wpAnyH_done (by kernel_rfl) ?_ _
                    go_wp2
                    go_meet
                    exact ⟨w7.heap.size, A1, c1, rfl, hz7, Blk.new w7 _ [_, _], hA1.bel (alloc_bel w7 _), hb9⟩
                  · go_simp
                    have hb7' := (bel_alloc (Below.refl wr.heap.size wr) (Nat.le_refl _) (.cells #[.int .i64 0, .slice none 0 0] 24)).drew
                    have hG7 : Blk (wr.alloc (.cells #[.int .i64 0, .slice none 0 0] 24)).drew wr.heap.size 24 [.int .i64 0, .slice none 0 0] := Blk.new wr 24 [.int .i64 0, .slice none 0 0]
                    refine hK _ _ (kp hb7') ?_
                    clear hK K hSd
                    refine nextH (i := 8) (by kernel_rfl) rfl (fun K hK => ?_)
                    go_simp
                    refine (HWI.out _ (hA.1.alloc _).drew).mono ?_
                    rintro e w8 ⟨⟨A1, c1, rfl, hA8⟩, hb8⟩
                    have hz7 : wr.heap.size ≤ wr.heap.size := Nat.le_refl _
                    have hb8' := bel_tr hb7' hb7'.size hb8
                    have hG8 := hG7.bel hb8
                    try dsimp only
                    refine hK _ _ (kp hb8') ?_
                    clear hK K
                    have g0 := hG8.cell 0; have g1 := hG8.cell 1; simp only [List.getElem?_cons_zero, List.getElem?_cons_succ] at g0 g1
                    have g2 := hG8.frozen 0
                    have g3 := hG8.frozen 1
                    have g4 := hG8.lt
                    refine nextH (i := 10) (by kernel_rfl) rfl (fun K hK => ?_)
                    go_simp
                    have hb9 := (hb8'.setCell (p := ⟨wr.heap.size, 0, none⟩) hz7 (.int .i64 l0)).setCell (p := ⟨wr.heap.size, 1, none⟩) hz7 (.slice A1 (k + 1) c1)
                    refine hK _ _ (kp hb9) ?_
                    clear hK K
                    refine wpAnyH_done (by kernel_rfl) ?_ _
                    go_wp2
                    go_meet
                    exact ⟨wr.heap.size, A1, c1, rfl, hz7, (hG8.set_ 0 _).set_ 1 _, (hA8.keep (KeepT.setCell hG8 (by decide) 0 _)).keep (KeepT.setCell (hG8.set_ 0 _) (by decide) 1 _), hb9⟩
                obtain ⟨g, A1, c1, rfl, hgz, hG, hA1, hbc⟩ := hcut
                obtain ⟨w4, rfl⟩ : ∃ w4 : World, w4 = wc := ⟨_, rfl⟩
                have hz4 := hbc.size
                have hR4 := hRr.bel hbc
                have hT4 := hTr.bel hbc
                have hB4 := bel_tr hBr (by have := hRr.lt; omega) hbc
                have hbr4 := hbr.trans (hbc.mono (show p + 3 ≤ wr.heap.size by omega))
                have hX4 := hXr.bel hbc
                have hO4 := hO.bel hbc
                have hA4 := hA.bel hbc
                have hgp : p + 3 < g := by omega
                clear o0 o1 x0 x1 x2 zo zx y0 hblt hRr hTr hBr hbr hXr hO hA hrr hXX2 HWI hbc
                have hpk1 := hT.pt (k + 1) hk1
                have HW2 : Hid (∀ W, Rd W A1 (gs (acc ++ [(pf l k * pf l k, (d : Int))])) → Calls Try.prog 53 #[.agg #[.int .i64 l0, .slice A1 (k + 1) c1], .int .i64 (pf l (k + 1)), .int .i64 1] W fun r w' => (∃ A2 c2, r = .returned (.agg #[.int .i64 l0, .slice A2 (k + 2) c2]) ∧ RdT w' 47 A2 (gs (tryL l acc d))) ∧ Below W.heap.size W w') := fun W h => by
                  have := with_c l0 (pf l (k + 1)) 1 A1 c1 (acc ++ [(pf l k * pf l k, (d : Int))]) W h (by simp; omega) (by omega) hpk1.2.1
                  rw [show (acc ++ [(pf l k * pf l k, (d : Int))]).length = k + 1 by simp [hlen]] at this
                  have ht : tryL l acc d = (acc ++ [(pf l k * pf l k, (d : Int))]) ++ [(pf l (k + 1) * pf l (k + 1), 1)] := by unfold tryL; rw [hlen]
                  rw [ht]
                  exact this
                have HVI : Hid (∀ A2 c2 W, Rd W A2 (gs (tryL l acc d)) → Calls Try.prog 42 #[.agg #[.int .i64 l0, .slice A2 (k + 2) c2], .int .i64 (pf l (k + 1))] W fun r w' => r = .returned (.agg #[.int .i64 (tryV l acc d).1, .int .i64 (tryV l acc d).2]) ∧ Below W.heap.size W w') := fun A2 c2 W h => by
                  have hpro := tryL_pro hT h5' HFO.out (by omega) (d := (d : Int)) (by omega) (by omega)
                  have hps := tryL_pass hT HFO.out (by omega) (d : Int)
                  have := refVirtual_c (plo l 0) (pf l (acc.length + 1)) A2 c2 (tryL l acc d) W h hpro (by rw [hlen]; exact hpk1.1) (by rw [hlen]; exact hpk1.2.1) (by rw [hps, tryL_length]; omega)
                  rw [tryL_virt hT HFO.out (by omega), tryL_length, hlen, hl0] at this
                  exact this
                have HLT := hide (tryV_lt (l := l) hT (acc := acc) (by omega) (d := (d : Int)) (by omega))
                rw [hlen, HTT.out] at HLT
                have HE12 := hide (fun h h2 => fitE_none (l := l) (acc := acc) h h2)
                have HE0 := hide (fun h h2 => fitE_ok (l := l) (acc := acc) h h2)
                rw [hlen, HTT.out] at HE12 HE0
                obtain ⟨V, hVV⟩ : ∃ V, tryV l acc d = V := ⟨_, rfl⟩
                rw [hVV] at HVI HLT
                have HVV := hide hVV
                clear hVV
                obtain ⟨x, y⟩ := V
                dsimp only at HVI HLT
                have o0 := hG.cell 0; have o1 := hG.cell 1; simp only [List.getElem?_cons_zero, List.getElem?_cons_succ] at o0 o1
                have x0 := hX4.cell 0; have x1 := hX4.cell 1; have x2 := hX4.cell 2; simp only [List.getElem?_cons_zero, List.getElem?_cons_succ] at x0 x1 x2
                have zo := hG.lt
                have zx := hX4.lt
                go_upto_region 17 with fail
                go_cut [13] from 49 to 88 (fun t wx => ∃ g' : Nat, t = .pointer (some ⟨g', 0, none⟩) ∧ w4.heap.size ≤ g' ∧ Blk wx g' 51 [.int .i64 x, .int .i64 y] ∧ Below w4.heap.size w4 wx)
                case first =>
                  refine wp_region_held (S := fun w' => (∀ b o, b < w4.heap.size → w'.cell? ⟨b, o, none⟩ = w4.cell? ⟨b, o, none⟩) ∧ Below w4.heap.size w4 w') (by kernel_rfl) ?_
                  have hSd : (∀ b o, b < w4.heap.size → w4.drew.cell? ⟨b, o, none⟩ = w4.cell? ⟨b, o, none⟩) ∧ Below w4.heap.size w4 w4.drew := kp (Below.refl _ _).drew
                  change wpAnyH _ _ _ _ _ _ _ _ w4.drew
                  refine wpAnyH_take (i := 0) (v := ?_) rfl (by kernel_rfl) (by kernel_rfl) (by kernel_rfl) (fun _ _ _ h => h) (Or.inl ⟨by kernel_rfl, ?_⟩) (by assumption) ?_
                  rotate_left 1
                  · (intro w hSw; obtain ⟨hk1, hk2⟩ := hSw; go_simp <;> with_reducible rfl)
                  simp only [Act.put, List.getElem_toArray, List.getElem_cons_zero, List.setIfInBounds_toArray, List.set_cons_zero, List.set_cons_succ]
                  refine wpAnyH_take (i := 1) (v := ?_) rfl (by kernel_rfl) (by kernel_rfl) (by kernel_rfl) (fun _ _ _ h => h) (Or.inl ⟨by kernel_rfl, ?_⟩) (by assumption) ?_
                  rotate_left 1
                  · (intro w hSw; obtain ⟨hk1, hk2⟩ := hSw; go_simp <;> with_reducible rfl)
                  simp only [Act.put, List.getElem_toArray, List.getElem_cons_zero, List.getElem_cons_succ, List.setIfInBounds_toArray, List.set_cons_zero, List.set_cons_succ]
                  refine wpAnyH_take (i := 2) (v := ?_) rfl (by kernel_rfl) (by kernel_rfl) (by kernel_rfl) (fun _ _ _ h => h) (Or.inl ⟨by kernel_rfl, ?_⟩) (by assumption) ?_
                  rotate_left 1
                  · (intro w hSw; obtain ⟨hk1, hk2⟩ := hSw; go_simp <;> with_reducible rfl)
                  simp only [Act.put, List.getElem_toArray, List.getElem_cons_zero, List.getElem_cons_succ, List.setIfInBounds_toArray, List.set_cons_zero, List.set_cons_succ]
                  refine wpAnyH_take (i := 4) (v := ?_) rfl (by kernel_rfl) (by kernel_rfl) (by kernel_rfl) (fun _ _ _ h => h) (Or.inl ⟨by kernel_rfl, ?_⟩) (by assumption) ?_
                  rotate_left 1
                  · (intro w hSw; obtain ⟨hk1, hk2⟩ := hSw; go_simp <;> with_reducible rfl)
                  simp only [Act.put, List.getElem_toArray, List.getElem_cons_zero, List.getElem_cons_succ, List.setIfInBounds_toArray, List.set_cons_zero, List.set_cons_succ]
                  refine wpAnyH_take (i := 5) (v := ?_) rfl (by kernel_rfl) (by kernel_rfl) (by kernel_rfl) (fun _ _ _ h => h) (Or.inl ⟨by kernel_rfl, ?_⟩) (by assumption) ?_
                  rotate_left 1
                  · (intro w hSw; obtain ⟨hk1, hk2⟩ := hSw; go_simp <;> with_reducible rfl)
                  simp only [Act.put, List.getElem_toArray, List.getElem_cons_zero, List.getElem_cons_succ, List.setIfInBounds_toArray, List.set_cons_zero, List.set_cons_succ]
                  refine nextH2 (i := 3) (j := 7) (by kernel_rfl) rfl rfl (fun K hK => ?_) (fun K hK => ?_)
                  · go_simp
                    refine (HW2.out _ hA1.1.drew).mono ?_
                    rintro e w5 ⟨⟨A2, c2, rfl, hA2⟩, hb5⟩
                    have hb5' := bel_tr hSd.2 hSd.2.size hb5
                    try dsimp only
                    refine hK _ _ (kp hb5') ?_
                    clear hK K hSd hb5
                    have hz5 := hb5'.size
                    refine nextH2 (i := 6) (j := 7) (by kernel_rfl) rfl rfl (fun K hK => ?_) (fun K hK => ?_)
                    · go_simp
                      refine (HVI.out _ _ _ hA2.1).mono ?_
                      rintro e w6 ⟨rfl, hb6⟩
                      have hb6' := bel_tr hb5' hz5 hb6
                      try dsimp only
                      refine hK _ _ (kp hb6') ?_
                      clear hK K
                      have hz6 := hb6'.size
                      refine nextH (i := 7) (by kernel_rfl) rfl (fun K hK => ?_)
                      go_simp
                      have hb7 := bel_alloc hb6' hz6 (.cells #[.int .i64 0, .int .i64 0] 51)
                      have hG7 := Blk.new w6 51 [.int .i64 0, .int .i64 0]
                      refine hK _ _ (kp hb7) ?_
                      clear hK K
                      have g0 := hG7.cell 0; have g1 := hG7.cell 1; simp only [List.getElem?_cons_zero, List.getElem?_cons_succ] at g0 g1
                      have g2 := hG7.frozen 0
                      have g3 := hG7.frozen 1
                      have g4 := hG7.lt
                      refine nextH (i := 8) (by kernel_rfl) rfl (fun K hK => ?_)
                      go_simp
                      have hb8 := bel_alloc hb6' hz6 (.cells #[.int .i64 x, .int .i64 y] 51)
                      refine hK _ _ (kp hb8) ?_
                      clear hK K
                      refine wpAnyH_done (by kernel_rfl) ?_ _
                      go_wp2
                      go_meet
                      exact ⟨w6.heap.size, rfl, hz6, Blk.new w6 _ [_, _], hb8⟩
                    · go_simp
                      have hb6' := bel_alloc hb5' hz5 (.cells #[.int .i64 0, .int .i64 0] 51)
                      have hG6 := Blk.new w5 51 [.int .i64 0, .int .i64 0]
                      refine hK _ _ (kp hb6') ?_
                      clear hK K
                      refine nextH (i := 6) (by kernel_rfl) rfl (fun K hK => ?_)
                      go_simp
                      refine (HVI.out _ _ _ (hA2.1.alloc _)).mono ?_
                      rintro e w7 ⟨rfl, hb7⟩
                      have hb7' := bel_tr hb6' (by simp; omega) hb7
                      have hG7 := hG6.bel hb7
                      try dsimp only
                      refine hK _ _ (kp hb7') ?_
                      clear hK K
                      have g0 := hG7.cell 0; have g1 := hG7.cell 1; simp only [List.getElem?_cons_zero, List.getElem?_cons_succ] at g0 g1
                      have g2 := hG7.frozen 0
                      have g3 := hG7.frozen 1
                      have g4 := hG7.lt
                      refine nextH (i := 8) (by kernel_rfl) rfl (fun K hK => ?_)
                      go_simp
                      have hb8 := (hb7'.setCell (p := ⟨w5.heap.size, 0, none⟩) hz5 (.int .i64 x)).setCell (p := ⟨w5.heap.size, 1, none⟩) hz5 (.int .i64 y)
                      refine hK _ _ (kp hb8) ?_
                      clear hK K
                      refine wpAnyH_done (by kernel_rfl) ?_ _
                      go_wp2
                      go_meet
                      exact ⟨w5.heap.size, rfl, hz5, (hG7.set_ 0 _).set_ 1 _, hb8⟩
                  · go_simp
                    have hb5' := (bel_alloc (Below.refl w4.heap.size w4) (Nat.le_refl _) (.cells #[.int .i64 0, .int .i64 0] 51)).drew
                    have hG5 : Blk (w4.alloc (.cells #[.int .i64 0, .int .i64 0] 51)).drew w4.heap.size 51 [.int .i64 0, .int .i64 0] := Blk.new w4 51 [.int .i64 0, .int .i64 0]
                    refine hK _ _ (kp hb5') ?_
                    clear hK K hSd
                    refine nextH (i := 3) (by kernel_rfl) rfl (fun K hK => ?_)
                    go_simp
                    refine (HW2.out _ (hA1.1.alloc _).drew).mono ?_
                    rintro e w6 ⟨⟨A2, c2, rfl, hA2⟩, hb6⟩
                    have hb6' := bel_tr hb5' hb5'.size hb6
                    have hG6 := hG5.bel hb6
                    try dsimp only
                    refine hK _ _ (kp hb6') ?_
                    clear hK K
                    refine nextH (i := 6) (by kernel_rfl) rfl (fun K hK => ?_)
                    go_simp
                    refine (HVI.out _ _ _ hA2.1).mono ?_
                    rintro e w7 ⟨rfl, hb7⟩
                    have hb7' := bel_tr hb6' hb6'.size hb7
                    have hG7 := hG6.bel hb7
                    try dsimp only
                    refine hK _ _ (kp hb7') ?_
                    clear hK K
                    have g0 := hG7.cell 0; have g1 := hG7.cell 1; simp only [List.getElem?_cons_zero, List.getElem?_cons_succ] at g0 g1
                    have g2 := hG7.frozen 0
                    have g3 := hG7.frozen 1
                    have g4 := hG7.lt
                    refine nextH (i := 8) (by kernel_rfl) rfl (fun K hK => ?_)
                    go_simp
                    have hb8 := (hb7'.setCell (p := ⟨w4.heap.size, 0, none⟩) (Nat.le_refl _) (.int .i64 x)).setCell (p := ⟨w4.heap.size, 1, none⟩) (Nat.le_refl _) (.int .i64 y)
                    refine hK _ _ (kp hb8) ?_
                    clear hK K
                    refine wpAnyH_done (by kernel_rfl) ?_ _
                    go_wp2
                    go_meet
                    exact ⟨w4.heap.size, rfl, Nat.le_refl _, (hG7.set_ 0 _).set_ 1 _, hb8⟩
                obtain ⟨g', rfl, hgz', hV, hbe⟩ := hcut
                obtain ⟨w6, rfl⟩ : ∃ w6 : World, w6 = wc := ⟨_, rfl⟩
                have hz6 := hbe.size
                have hR6 := hR4.bel hbe
                have hT6 := hT4.bel hbe
                have hB6 := bel_tr hB4 (by have := hR4.lt; omega) hbe
                have hbr6 := hbr4.trans (hbe.mono (show p + 3 ≤ w4.heap.size by omega))
                have hX6 := hX4.bel hbe
                have hO6 := hO4.bel hbe
                have hA6 := hA4.bel hbe
                have hG6 := hG.bel hbe
                have hA16 := hA1.bel hbe
                clear o0 o1 x0 x1 x2 zo zx hR4 hT4 hB4 hbr4 hX4 hO4 hA4 hG hA1 hbe HW2 HVI
                have v0 := hV.cell 0; have v1 := hV.cell 1; simp only [List.getElem?_cons_zero, List.getElem?_cons_succ] at v0 v1
                have x0 := hX6.cell 0; have x1 := hX6.cell 1; have x2 := hX6.cell 2; simp only [List.getElem?_cons_zero, List.getElem?_cons_succ] at x0 x1 x2
                have zv := hV.lt
                have zx := hX6.lt
                by_cases hlt2 : (d : Int) < T
                · have e5 : decide (y < plo l (k + 1)) = true := decide_eq_true (HLT.out.2 hlt2)
                  have hd1 : d + 1 ≤ 501 := by omega
                  have hd2 : ((d + 1 : Nat) : Int) ≤ T := by omega
                  clear hlt2
                  go_wp2
                  go_roundw
                  case rel => exact ⟨d + 1, hd1, by go_num, hbr6, hX6, .inl ⟨rfl, hd2, hO6, hA6⟩⟩
                  case measure => simp [intOf]; omega
                · have hdT' : (d : Int) = T := by omega
                  have e5 : decide (y < plo l (k + 1)) = false := decide_eq_false (fun h => hlt2 (HLT.out.1 h))
                  have hVT : (tryV l acc T).1 = x := by rw [← hdT', HVV.out]
                  rw [hVT] at HE12 HE0
                  have hT5 : ¬ 500 < T := by omega
                  by_cases hx : phi l (k + 1) < x
                  · have HF := hide (HST.out 12 (HE12.out hT5 hx) (by decide))
                    have e6 : decide (phi l (k + 1) < x) = true := decide_eq_true hx
                    clear HST HSP HNX hlt2 hx HE12 HE0 hVT
                    go_upto_region 20 with fail
                    have k0 := hT6.cell 0
                    have k1 := hT6.cell 1
                    simp only [List.getElem?_cons_zero, List.getElem?_cons_succ] at k0 k1
                    have fz0 := hR6.frozen 0
                    have fz1 := hR6.frozen 1
                    have r0 := hR6.cell 0
                    have r1 := hR6.cell 1
                    simp only [List.getElem?_cons_zero, List.getElem?_cons_succ] at r0 r1
                    have zt := hT6.lt
                    have zr := hR6.lt
                    go_wp2
                    obtain ⟨WE, hWE⟩ : ∃ WE, (w6.setCell ⟨p + 1, 0, none⟩ (.int .i64 0)).setCell ⟨p + 1, 1, none⟩ (.slice none 0 0) = WE := ⟨_, rfl⟩
                    rw [hWE]
                    have hE : Blk WE (p + 1) 24 [.int .i64 0, .slice none 0 0] := by rw [← hWE]; exact (hR6.set_ 0 _).set_ 1 _
                    have hBE : Below p w WE := by rw [← hWE]; exact ((hB6).setCell (by show p ≤ p + 1; omega) _).setCell (by show p ≤ p + 1; omega) _
                    clear hWE
                    have g0 := hE.cell 0; have g1 := hE.cell 1; simp only [List.getElem?_cons_zero, List.getElem?_cons_succ] at g0 g1
                    exact bodyPost_ret (v := .tuple #[.agg #[.int .i64 0, .slice none 0 0], .int .i64 ((k : Int) + 1), .int .i64 12]) (by simp [results, Try.results27, go_sem, g0, g1]; try rfl) rfl (by first | exact ⟨⟨none, 0, by rw [HF.out]; rfl, by rw [HF.out]; exact Rd.nil _ _⟩, by rw [hp]; exact hBE⟩ | exact ⟨⟨none, ⟨0, by rw [HF.out]; rfl⟩, by rw [HF.out]; exact Rd.nil _ _⟩, hBE⟩)
                  · have HEE : Hid (fitE l acc = 0 ∧ T ≤ 500) := ⟨HE0.out hT5 hx, by omega⟩
                    have e6 : decide (phi l (k + 1) < x) = false := decide_eq_false hx
                    have hd1 : d + 1 ≤ 501 := by omega
                    clear HST HSP HNX hlt2 hx HE12 HE0 hVT
                    have o0 := hG6.cell 0; have o1 := hG6.cell 1; simp only [List.getElem?_cons_zero, List.getElem?_cons_succ] at o0 o1
                    have r0 := hO6.cell 0; have r1 := hO6.cell 1; simp only [List.getElem?_cons_zero, List.getElem?_cons_succ] at r0 r1
                    have r2 := hO6.frozen 0
                    have r3 := hO6.frozen 1
                    have zo := hG6.lt
                    have zr := hO6.lt
                    go_wp2
                    go_roundw
                    case rel =>
                      refine ⟨d + 1, hd1, by go_num, (hbr6.setCell (Nat.le_refl _) _).setCell (Nat.le_refl _) _, (hX6.far (by show X ≠ p + 3; omega) _).far (by show X ≠ p + 3; omega) _, .inr ⟨rfl, HEE, A1, c1, (hO6.set_ 0 _).set_ 1 _, ?_⟩⟩
                      rw [← hdT']
                      exact (hA16.keep (KeepT.setCell hO6 (by decide) 0 _)).keep (KeepT.setCell (hO6.set_ 0 _) (by decide) 1 _)
                    case measure => simp [intOf]; omega
              · have e4 : decide ((d : Int) ≤ 500) = false := decide_eq_false (by omega)
                have HF := hide (HST.out 22 (fitE_many (by rw [HTT.out]; omega)) (by decide))
                clear HST HSP HNX
                go_upto_region 23 with fail
                have k0 := hTr.cell 0
                have k1 := hTr.cell 1
                simp only [List.getElem?_cons_zero, List.getElem?_cons_succ] at k0 k1
                have fz0 := hRr.frozen 0
                have fz1 := hRr.frozen 1
                have r0 := hRr.cell 0
                have r1 := hRr.cell 1
                simp only [List.getElem?_cons_zero, List.getElem?_cons_succ] at r0 r1
                have zt := hTr.lt
                have zr := hRr.lt
                go_wp2
                obtain ⟨WE, hWE⟩ : ∃ WE, (wr.setCell ⟨p + 1, 0, none⟩ (.int .i64 0)).setCell ⟨p + 1, 1, none⟩ (.slice none 0 0) = WE := ⟨_, rfl⟩
                rw [hWE]
                have hE : Blk WE (p + 1) 24 [.int .i64 0, .slice none 0 0] := by rw [← hWE]; exact (hRr.set_ 0 _).set_ 1 _
                have hBE : Below p w WE := by rw [← hWE]; exact ((hBr).setCell (by show p ≤ p + 1; omega) _).setCell (by show p ≤ p + 1; omega) _
                clear hWE
                have g0 := hE.cell 0; have g1 := hE.cell 1; simp only [List.getElem?_cons_zero, List.getElem?_cons_succ] at g0 g1
                exact bodyPost_ret (v := .tuple #[.agg #[.int .i64 0, .slice none 0 0], .int .i64 ((k : Int) + 1), .int .i64 22]) (by simp [results, Try.results27, go_sem, g0, g1]; try rfl) rfl (by first | exact ⟨⟨none, 0, by rw [HF.out]; rfl, by rw [HF.out]; exact Rd.nil _ _⟩, by rw [hp]; exact hBE⟩ | exact ⟨⟨none, ⟨0, by rw [HF.out]; rfl⟩, by rw [HF.out]; exact Rd.nil _ _⟩, hBE⟩)
            · by_cases hd5 : d ≤ 500
              · have e4 : decide ((d : Int) ≤ 500) = true := decide_eq_true (by omega)
                go_wp2
                go_roundw
                case rel => exact ⟨k + 1, A2, c2, by omega, by go_num, hbr, by have := hXr.lt; omega, hO, by rw [HNX.out HE.out.1]; exact hA, by show _ = _; rw [HNX.out HE.out.1]⟩
                case measure => simp [intOf]; omega
              · have e4 : decide ((d : Int) ≤ 500) = false := decide_eq_false (by omega)
                go_wp2
                go_roundw
                case rel => exact ⟨k + 1, A2, c2, by omega, by go_num, hbr, by have := hXr.lt; omega, hO, by rw [HNX.out HE.out.1]; exact hA, by show _ = _; rw [HNX.out HE.out.1]⟩
                case measure => simp [intOf]; omega
        · obtain rfl : k = N := by omega
          have hlen := fit_length h0.out
          have HF : Hid (fitRes l width = (plo l 0, (fit l k).1 ++ [(pf l k * pf l k, 1)], 0, 0)) := by show _ = _; rw [HRS.out, if_pos h0.out]
          obtain ⟨b', off', e', hblt, y0, _, _⟩ := hrr.p_at (show k < l.length by omega)
          cases e'
          rw [← getD_at (show k < l.length by omega) P0, show (l.getD k P0).1 = pf l k from rfl] at y0
          have hpk := hT.pt k (by omega)
          generalize (fit l k).1 = acc at hA hlen HF
          have HWI : Hid (∀ W, Rd W A' (gs acc) → Calls Try.prog 53 #[.agg #[.int .i64 l0, .slice A' k c'], .int .i64 (pf l k), .int .i64 1] W fun r w' => (∃ A1 c1, r = .returned (.agg #[.int .i64 l0, .slice A1 (k + 1) c1]) ∧ RdT w' 47 A1 (gs (acc ++ [(pf l k * pf l k, 1)]))) ∧ Below W.heap.size W w') := fun W h => by
            have := with_c l0 (pf l k) 1 A' c' acc W h (by omega) (by omega) hpk.2.1
            rw [hlen] at this
            exact this
          have hacc : (acc ++ [(pf l k * pf l k, (1 : Int))]).length = k + 1 := by simp [hlen]
          have u1 : IntKind.i64.wrap ((k : Int) + 1) = (k : Int) + 1 := by simp (disch := omega) only [IntWalk.i64_in]
          have e3 : decide ((k : Int) + 1 < (l.length : Int)) = false := decide_eq_false (by omega)
          have u2 : IntKind.i64.wrap ((l.length : Int) - 1) = (k : Int) := by rw [show (l.length : Int) - 1 = (k : Int) by omega]; simp (disch := omega) only [IntWalk.i64_in]
          have i1 : (0 : Int) ≤ (k : Int) := by omega
          have i2 : (k : Int) < (l.length : Int) := by omega
          have o0 := hO.cell 0; have o1 := hO.cell 1; simp only [List.getElem?_cons_zero, List.getElem?_cons_succ] at o0 o1
          have zo := hO.lt
          have hbp : b < p := by
            have := hr.low (by intro h; have h2 := congrArg List.length h; rw [ps_length, List.length_nil] at h2; omega) b off rfl
            omega
          have q0 := hRr.cell 0
          have q1 := hRr.cell 1
          simp only [List.getElem?_cons_zero, List.getElem?_cons_succ] at q0 q1
          have zr := hRr.lt
          go_upto_region 24 with fail
          go_region_held3 (fun w' => w'.cell? ⟨p + 3, 0, none⟩ = some (.int .i64 l0) ∧ w'.cell? ⟨p + 3, 1, none⟩ = some (.slice A' k c') ∧ w'.cell? ⟨p, 0, none⟩ = some (.slice (some ⟨b, off, none⟩) l.length c) ∧ w'.cell? ⟨b, off + k * 3, none⟩ = some (.int .i64 (pf l k)))
            (first | exact ⟨o0, o1, c0, y0⟩ | exact ⟨m0, m1, m2, m3⟩ | exact ⟨cell_set2 m0 (by omega), cell_set2 m1 (by omega), cell_set2 m2 (by omega), cell_set2 m3 (by omega)⟩)
            (first
              | (go_at_call 53; refine (HWI.out _ (by exact hA.1)).mono ?_; rintro e w7 ⟨⟨A1, c1, rfl, hA1⟩, hb7⟩; have HB1 : Hid (Below wr.heap.size wr w7) := hide (Below.trans (Below.refl _ _).drew hb7); have s1 := HB1.out.size; have m0 := (HB1.out.cell (p := ⟨p + 3, 0, none⟩) zo).trans o0; have m1 := (HB1.out.cell (p := ⟨p + 3, 1, none⟩) zo).trans o1; have m2 := (HB1.out.cell (p := ⟨p, 0, none⟩) z0).trans c0; have m3 := (HB1.out.cell (p := ⟨b, off + k * 3, none⟩) hblt).trans y0; have n0 := (HB1.out.cell (p := ⟨p + 1, 0, none⟩) zr).trans q0; have n1 := (HB1.out.cell (p := ⟨p + 1, 1, none⟩) zr).trans q1; have n2 := (hRr.bel HB1.out).frozen 0; have n3 := (hRr.bel HB1.out).frozen 1; have n4 := (hRr.bel HB1.out).lt))
          go_wp2
          have hR7 := hRr.bel HB1.out
          have hB7 := bel_tr hBr (by omega) HB1.out
          obtain ⟨WE, hWE⟩ : ∃ WE, (w7.setCell ⟨p + 1, 0, none⟩ (.int .i64 l0)).setCell ⟨p + 1, 1, none⟩ (.slice A1 (k + 1) c1) = WE := ⟨_, rfl⟩
          rw [hWE]
          have hE : Blk WE (p + 1) 24 [.int .i64 l0, .slice A1 (k + 1) c1] := by rw [← hWE]; exact (hR7.set_ 0 _).set_ 1 _
          have hBE : Below p w WE := by rw [← hWE]; exact (hB7.setCell (by show p ≤ p + 1; omega) _).setCell (by show p ≤ p + 1; omega) _
          have hrE : Rd WE A1 (gs (acc ++ [(pf l k * pf l k, 1)])) := by rw [← hWE]; exact ((hA1.keep (KeepT.setCell hR7 (by decide) 0 _)).keep (KeepT.setCell (hR7.set_ 0 _) (by decide) 1 _)).1
          clear hWE
          have g0 := hE.cell 0; have g1 := hE.cell 1; simp only [List.getElem?_cons_zero, List.getElem?_cons_succ] at g0 g1
          exact bodyPost_ret (v := .tuple #[.agg #[.int .i64 l0, .slice A1 (k + 1) c1], .int .i64 0, .int .i64 0]) (by simp [results, Try.results27, go_sem, g0, g1]; try rfl) rfl (by first | exact ⟨⟨A1, c1, by rw [HF.out, hl0, hacc], by rw [HF.out]; exact hrE⟩, by rw [hp]; exact hBE⟩ | exact ⟨⟨A1, ⟨c1, by rw [HF.out, hl0, hacc]⟩, by rw [HF.out]; exact hrE⟩, hBE⟩)
end Go.Proofs.Ytdeehodekilaiaa
