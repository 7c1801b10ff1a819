/- Contracts: the fit of a trace. -/
import Derived.Test.YtdeehodekilaiaaF13
set_option linter.unusedSimpArgs false
set_option linter.unusedVariables false
namespace Go.Proofs.Ytdeehodekilaiaa
open Go.RowKit
set_option maxRecDepth 100000

theorem Try.infoS : (Try.prog.info? 47).map (fun i => (i.zero, i.size, i.bytes)) = some (some (.agg #[.int .i64 0, .int .i64 0]), 2, 16) := by kernel_rfl

theorem own_set {W : World} {base : Nat} {e : TypeId} {size n : Nat} {v : Value} {xs : List Value} (h : W.ownsRow base e size v n xs) {B : Nat} (hB : B < base) (i : Nat) (u : Value) : (W.setCell ⟨B, i, none⟩ u).ownsRow base e size v n xs := by
  refine h.kept (row := some B) ⟨rfl, rfl, rfl, by simp [World.setCell], fun k _ hne => Below.heap_setCell _ _ _ _ (fun e => hne (by rw [e]))⟩ (.inr ?_)
  intro he
  have := (h.lt B he).1
  omega
/-- The answer of Fitted. -/
def FitPost (l : List PT) (w : World) (r : Ending) (w' : World) : Prop :=
  (((fit l (l.length - 1)).2.2 = 0 ∧ ∃ A c, r = .returned (.tuple #[.agg #[.int .i64 (plo l 0), .slice A l.length c], .int .i64 0, .int .i64 0]) ∧ RdT w' 47 A (gs ((fit l (l.length - 1)).1 ++ [(pf l (l.length - 1) * pf l (l.length - 1), 1)]))) ∨
    ((fit l (l.length - 1)).2.2 ≠ 0 ∧ r = .returned (.tuple #[.agg #[.int .i64 0, .slice none 0 0], .int .i64 (fit l (l.length - 1)).2.1, .int .i64 (fit l (l.length - 1)).2.2]))) ∧ Below w.heap.size w w'
theorem fit_stays {l : List PT} {k j : Nat} (h : (fit l k).2.2 ≠ 0) (hj : k ≤ j) : fit l j = fit l k := by
  induction j with
  | zero => have : k = 0 := by omega
            subst this; rfl
  | succ j ih =>
    rcases Nat.lt_or_ge j k with h1 | h1
    · have : k = j + 1 := by omega
      subst this; rfl
    · have := ih h1
      rw [fit, this, if_neg h]

set_option maxHeartbeats 2000000 in
theorem fitted_c (A : Option Addr) (c : Nat) (after : Int) (l : List PT) (w : World) (hr : Rd w A (ps l)) (hT : Tr l after 0) (h5 : plo l 0 ≤ 500) :
    Calls Try.prog 23 #[.agg #[.slice A l.length c, .int .i64 after, .int .i64 0]] w (FitPost l w) := by
  obtain ⟨i0, hi, iz0, iz1, iz2⟩ := info_parts Try.infoS
  have hn8 := hT.n1
  have hn0 := hT.n0
  have hl : l.length ≤ 1000 := by omega
  have HC := hide (fun W h => checked_c A c after 0 l W h hl)
  have HV : Hid (chkV A l.length c after 0 (trE l after 0).2 = .tuple #[.agg #[.slice A l.length c, .int .i64 after, .int .i64 0], .int .i64 0]) := by show _ = _; unfold chkV; rw [hT.err]; rfl
  rw [HV.out] at HC
  clear HV
  obtain ⟨W0, hW0⟩ : ∃ W0, (w.alloc (.cells #[.slice A l.length c, .int .i64 after, .int .i64 0] 30)).alloc (.cells #[.int .i64 0, .slice none 0 0] 24) = W0 := ⟨_, rfl⟩
  obtain ⟨p, hp⟩ : ∃ p, w.heap.size = p := ⟨_, rfl⟩
  have hX0 : Blk W0 p 30 [.slice A l.length c, .int .i64 after, .int .i64 0] := by rw [← hW0, ← hp]; exact (two_new w _ _ [_, _, _] [_, _]).1
  have hR0 : Blk W0 (p + 1) 24 [.int .i64 0, .slice none 0 0] := by rw [← hW0, ← hp]; exact (two_new w _ _ [_, _, _] [_, _]).2.1
  have hB0 : Below p w W0 := by rw [← hW0, ← hp]; exact (two_new w _ _ [_, _, _] [_, _]).2.2
  have hr0 := hr.bel (by rw [hp]; exact hB0)
  have HW := hide hW0
  clear hW0 hr
  have c0 := hX0.cell 0; have c1 := hX0.cell 1; have c2 := hX0.cell 2; simp only [List.getElem?_cons_zero, List.getElem?_cons_succ] at c0 c1 c2
  have hz := hR0.lt
  have hz2 := hX0.lt
  obtain ⟨b, off, rfl, hblt, _, x1, _⟩ := hr0.p_at (k := 0) (by omega)
  rw [← getD_at (show 0 < l.length by omega) P0, show (l.getD 0 P0).2.1 = plo l 0 from rfl] at x1
  simp only [Nat.zero_mul, Nat.add_zero] at x1
  have HP0 := hide (hT.pt 0 (by omega))
  obtain ⟨l0, hl0⟩ : ∃ x, plo l 0 = x := ⟨_, rfl⟩
  rw [hl0] at x1 h5
  have HL0 := hide hl0
  clear hl0
  have i3 : 0 < l.length := by omega
  have HF0 : Hid (firstE [0, errIf false 15] = 0) := rfl
  go_enter Try.func23, Try.ntmps23
  go_upto_region 1 with fail
  rw [HW.out]
  go_upto_region 2 with (go_at_call 47; refine (HC.out _ hr0).mono ?_; rintro e w2 ⟨rfl, hb2⟩)
  obtain ⟨W3, hW3⟩ : ∃ W3, w2.alloc (.cells #[.slice (some ⟨b, off, none⟩) l.length c, .int .i64 after, .int .i64 0] 98) = W3 := ⟨_, rfl⟩
  have hb03 : Below W0.heap.size W0 W3 := by rw [← hW3]; exact bel_alloc hb2 hb2.size _
  have hC3 : Blk W3 w2.heap.size 98 [.slice (some ⟨b, off, none⟩) l.length c, .int .i64 after, .int .i64 0] := by rw [← hW3]; exact Blk.new w2 _ [_, _, _]
  obtain ⟨s, hs⟩ : ∃ s, w2.heap.size = s := ⟨_, rfl⟩
  have hs0 : W0.heap.size ≤ s := by rw [← hs]; exact hb2.size
  rw [hW3]
  rw [hs] at hC3 ⊢
  clear hW3 hb2 hs
  have hX3 := hX0.bel hb03
  have d2 := hX3.cell 2
  simp only [List.getElem?_cons_zero, List.getElem?_cons_succ] at d2
  have z3 := hX3.lt
  go_upto_region 3 with (first
    | (go_at_call 35; refine (errorIf_c _ _ _).mono ?_; rintro e_ w_ ⟨rfl, rfl⟩)
    | (go_at_call 33; refine (firstError_2 _ _ _).mono ?_; rintro e_ w_ ⟨rfl, rfl⟩))
  rw [HF0.out]
  obtain ⟨W4, hW4⟩ : ∃ W4, W3.alloc (.cells #[.int .i64 0, .int .i64 (errIf false 15)] 31) = W4 := ⟨_, rfl⟩
  have hb34 : Below W3.heap.size W3 W4 := by rw [← hW4]; exact alloc_bel _ _
  have hb04 := tr hb03 hb34 hb03.size
  have hC4 := hC3.bel hb34
  rw [hW4]
  clear hW4 d2 z3 c0 c1 c2 hC3
  have e0 := hC4.cell 0
  have e1 := hC4.cell 1
  have e2 := hC4.cell 2
  simp only [List.getElem?_cons_zero, List.getElem?_cons_succ] at e0 e1 e2
  have ze := hC4.lt
  have y1 := (hb04.cell (p := ⟨b, off + 1, none⟩) hblt).trans x1
  clear x1
  have e5 : decide (500 < l0) = false := decide_eq_false (by omega)
  go_upto_region 8 with fail
  obtain ⟨q, hq⟩ : ∃ q, W4.heap.size = q := ⟨_, rfl⟩
  obtain ⟨V, hV⟩ : ∃ V, W4.alloc (.cells #[.int .i64 l0, .slice none 0 0] 24) = V := ⟨_, rfl⟩
  have hb4V : Below q W4 V := by rw [← hV, ← hq]; exact alloc_bel _ _
  have hVs : V.heap.size = q + 1 := by rw [← hV]; simp; omega
  have hQ0 : Blk V q 24 [.int .i64 l0, .slice none 0 0] := by rw [← hV, ← hq]; exact Blk.new W4 _ [_, _]
  have hb0V : Below W0.heap.size W0 V := hb04.trans (hb4V.mono (by rw [← hq]; exact hb04.size))
  have hsq : s < q := by omega
  have hCV : Blk V s 98 _ := hC4.below hb4V hsq
  have hRV : Blk V (p + 1) 24 [.int .i64 0, .slice none 0 0] := hR0.bel hb0V
  have hrV := hr0.bel hb0V
  have hBV : Below p w V := bel_tr hB0 (by omega) hb0V
  rw [hV]
  clear hV e0 e1 e2 hb34 hb04 hC4 hb4V hb03 hX3 y1 hX0 HC HW
  obtain ⟨N, hN⟩ : ∃ N, l.length - 1 = N := ⟨_, rfl⟩
  have hN1 : l.length ≤ N + 1 := by omega
  have hN2 : N + 1 ≤ l.length := by omega
  have HSL := hide (fun W => slabs_c (some ⟨b, off, none⟩) l.length c after 0 W (by omega) hn0)
  rw [hN] at HSL
  have HP : Hid (FitPost l w = fun r w' => (((fit l N).2.2 = 0 ∧ ∃ A c, r = .returned (.tuple #[.agg #[.int .i64 (plo l 0), .slice A l.length c], .int .i64 0, .int .i64 0]) ∧ RdT w' 47 A (gs ((fit l N).1 ++ [(pf l N * pf l N, 1)]))) ∨
    ((fit l N).2.2 ≠ 0 ∧ r = .returned (.tuple #[.agg #[.int .i64 0, .slice none 0 0], .int .i64 (fit l N).2.1, .int .i64 (fit l N).2.2]))) ∧ Below w.heap.size w w') := by show _ = _; funext r w'; unfold FitPost; rw [hN]
  clear hN
  have f0 := hCV.cell 0
  have f1 := hCV.cell 1
  have f2 := hCV.cell 2
  simp only [List.getElem?_cons_zero, List.getElem?_cons_succ] at f0 f1 f2
  have hbq : b < q := by omega
  have hpq : p + 1 < q := by omega
  go_wp2_with (go_at_call 49; refine (HSL.out _).mono ?_; rintro e w5 ⟨rfl, hb5⟩)
  have hb5q : Below (q + 1) V w5 := by rw [← hVs]; exact hb5
  go_loopw [42] (fun i wr => ∃ (k : Nat) (v : Value), k ≤ N ∧ i = .int .i64 k ∧ Below q V wr ∧ Blk wr q 24 [.int .i64 l0, v] ∧ wr.ownsRow (q + 1) 47 2 v k (gs (fit l k).1) ∧ Hid ((fit l k).2.2 = 0)) (fun i _ => N - (intOf i).toNat)
  case atStart => exact ⟨0, _, Nat.zero_le _, rfl, hb5q.mono (by omega), hQ0.below hb5q (by omega), World.ownsRow_nil _ _ _ _, rfl⟩
  case round =>
    obtain ⟨k, v, hk, rfl, hbr, hQr, hown, h0⟩ := hrel
    have hCr := hCV.below hbr hsq
    have hRr := hRV.below hbr hpq
    have hrr : Rd wr (some ⟨b, off, none⟩) (ps l) := hrV.keepS (S := fun k => k < q) (fun _ b' off' e => by cases e; exact hbq) (Keep.of_below hbr fun k hk => hk)
    have g0 := hCr.cell 0
    have g1 := hCr.cell 1
    have g2 := hCr.cell 2
    have j0 := hQr.cell 0
    have j1 := hQr.cell 1
    simp only [List.getElem?_cons_zero, List.getElem?_cons_succ] at g0 g1 g2 j0 j1
    have hzs := hCr.lt
    have hzq := hQr.lt
    have hBr := hBV.trans (hbr.mono (by omega))
    obtain ⟨SA, cs, rfl⟩ := ownsRow_slice hown
    have hrow := Rd.of_own hown
    have hlen := fit_length h0.out
    by_cases hlt : k < N
    · have HS := hide (fun W h1 h2 => fittedSlab_c (some ⟨b, off, none⟩) SA c cs after 0 l (fit l k).1 W h1 h2 hT (fit_ok hT (by omega)) (by omega))
      rw [hlen, HL0.out] at HS
      have HFE : Hid (fit l (k + 1) = if fitE l (fit l k).1 = 0 then ((fit l k).1 ++ [(pf l k * pf l k, fitT l (fit l k).1)], 0, 0) else ([], k + 1, fitE l (fit l k).1)) := by show _ = _; rw [fit, if_pos h0.out]
      have HST := hide (fun h => fit_stays (l := l) (k := k + 1) (j := N) h (by omega))
      clear hlen
      generalize fitT l (fit l k).1 = T at HS HFE
      generalize fitE l (fit l k).1 = E at HS HFE
      generalize pf l k * pf l k = sqk at HS HFE
      by_cases hE : E = 0
      · have HF : Hid (fit l (k + 1) = ((fit l k).1 ++ [(sqk, T)], 0, 0)) := by show _ = _; rw [HFE.out, if_pos hE]
        subst hE
        clear HFE HST
        go_upto_region 14 with (go_at_call 50; refine (HS.out _ hrr hrow).mono ?_; rintro e w6 ⟨rfl, hb6⟩)
        obtain ⟨W7, hW7⟩ : ∃ W7, w6.alloc (.cells #[.int .i64 sqk, .int .i64 T] 47) = W7 := ⟨_, rfl⟩
        have hb7 : Below wr.heap.size wr W7 := by rw [← hW7]; exact bel_alloc hb6 hb6.size _
        have hs7 : Blk W7 w6.heap.size 47 [.int .i64 sqk, .int .i64 T] := by rw [← hW7]; exact Blk.new w6 _ [_, _]
        have hown7 := ownsRow_bel hown hb7
        have hQ7 := hQr.bel hb7
        rw [hW7]
        have m0 := hQ7.cell 0
        have m1 := hQ7.cell 1
        have m2 := hs7.cell 0
        have m3 := hs7.cell 1
        simp only [List.getElem?_cons_zero, List.getElem?_cons_succ] at m0 m1 m2 m3
        have hz7 := hQ7.lt
        have hz8 := hs7.lt
        have hbr7 : Below q V W7 := hbr.trans (hb7.mono (by omega))
        clear hW7
        go_wp2_with (at_builtin; refine wpList_append_own _ rfl _ _ 22 rfl (q + 1) 47 i0 _ 2 16 Try.underlying22 hi iz0 iz1 iz2 rfl (by decide) _ _ _ rfl (hown7.alloc _) ⟨W7.heap.size, 0, none⟩ 1 1 [.int .i64 sqk, .int .i64 T] rfl rfl (World.news_of_block (heap_alloc_new W7 _)) (by simp [Value.oneCell']) (by unfold maxLen; omega) (by omega) (by simp; omega) ?_; intro v' w8 hown8 hg8 _; obtain ⟨g8, c8, rfl⟩ := ownsRow_succ hown8; have hQ8 : Blk w8 q 24 [.int .i64 l0, .slice SA k cs] := (hg8.block q (by simp; omega) (fun e => by have := (hown7.lt q e.symm).1; omega)).trans (hQ7.bel (alloc_bel _ _)); have n0 := hQ8.cell 0; have n1 := hQ8.cell 1; have n2 := hQ8.frozen 1; simp only [List.getElem?_cons_zero, List.getElem?_cons_succ] at n0 n1; have n3 := hQ8.lt)
        have hb8 : Below q V w8 := (bel_alloc hbr7 (by omega) _).grown hg8 (by simp; omega) (fun j hj => by have := (hown7.lt j hj).1; omega)
        go_roundw
        case rel => exact ⟨k + 1, _, by omega, by go_num, hb8.setCell (Nat.le_refl _) _, hQ8.set_ 1 _, by rw [HF.out, gs_append]; exact own_set hown8 (by omega) 1 _, by show _ = _; rw [HF.out]⟩
        case measure => simp [intOf]; omega
      · have e6 : (E != 0) = true := by simpa using hE
        have HF : Hid (fit l N = ([], k + 1, E)) := by
          have e := HFE.out
          rw [if_neg hE] at e
          show _ = _
          rw [HST.out (by rw [e]; exact hE), e]
        have HE := hide hE
        clear hE HFE HST
        have k0 := hRr.frozen 0
        go_wp2_with (go_at_call 50; refine (HS.out _ hrr hrow).mono ?_; rintro e w6 ⟨rfl, hb6⟩; have hR6 := hRr.bel hb6; have k1 := hR6.cell 0; have k2 := hR6.cell 1; have k3 := hR6.frozen 0; have k4 := hR6.frozen 1; simp only [List.getElem?_cons_zero, List.getElem?_cons_succ] at k1 k2; have k5 := hR6.lt)
        have hE0 : Blk (((w6.setCell ⟨p + 1, 0, none⟩ (.int .i64 0)).setCell ⟨p + 1, 1, none⟩ (.slice none 0 0)).alloc (.cells #[.int .i64 sqk, .int .i64 T] 47)) (p + 1) 24 [.int .i64 0, .slice none 0 0] := ((hR6.set_ 0 _).set_ 1 _).bel (alloc_bel _ _)
        have hBE : Below p w (((w6.setCell ⟨p + 1, 0, none⟩ (.int .i64 0)).setCell ⟨p + 1, 1, none⟩ (.slice none 0 0)).alloc (.cells #[.int .i64 sqk, .int .i64 T] 47)) := bel_alloc (((bel_tr hBr (by omega) hb6).setCell (by show p ≤ p + 1; omega) _).setCell (by show p ≤ p + 1; omega) _) (by simp [World.setCell]; omega) _
        generalize ((w6.setCell ⟨p + 1, 0, none⟩ (.int .i64 0)).setCell ⟨p + 1, 1, none⟩ (.slice none 0 0)).alloc (.cells #[.int .i64 sqk, .int .i64 T] 47) = WE at hE0 hBE ⊢
        have n0 := hE0.cell 0
        have n1 := hE0.cell 1
        simp only [List.getElem?_cons_zero, List.getElem?_cons_succ] at n0 n1
        refine bodyPost_ret (v := .tuple #[.agg #[.int .i64 0, .slice none 0 0], .int .i64 ((k : Int) + 1), .int .i64 E]) (by simp [results, Try.results23, go_sem, n0, n1]; try rfl) rfl ?_
        rw [HP.out]
        exact ⟨.inr ⟨by rw [HF.out]; exact HE.out, by rw [HF.out]; rfl⟩, by rw [hp]; exact hBE⟩
    · obtain rfl : k = N := by omega
      have hpN := hT.pt k (by omega)
      obtain ⟨_, xk, _, _⟩ := hrr.p_in (show k < l.length by omega)
      rw [← getD_at (show k < l.length by omega) P0] at xk
      have HQ := hide (fun W (hb : Below wr.heap.size wr W) => square_c b off l.length c k after 0 (pf l k) W ((hb.cell (p := ⟨b, off + k * 3, none⟩) (by omega)).trans xk) (by omega) (by omega) hpN.1 hpN.2.1)
      have HSq := hide (show pf l k * pf l k = pf l k * pf l k from rfl)
      generalize hsk : pf l k * pf l k = sqk at HQ
      have HSK := hide hsk
      clear hsk xk hpN
      go_upto_region 16 with fail
      go_cut [11] from 65 to 70 (fun t11 wx => ∃ a : Nat, t11 = .pointer (some ⟨a, 0, none⟩) ∧ Blk wx a 47 [.int .i64 sqk, .int .i64 1] ∧ wr.heap.size ≤ a ∧ Below wr.heap.size wr wx)
      case first =>
        go_region_held3 (fun w' => (∀ b o, b < wr.heap.size → w'.cell? ⟨b, o, none⟩ = wr.cell? ⟨b, o, none⟩) ∧ Below wr.heap.size wr w')
          ((refine kp ?_; (repeat' (first | with_reducible exact Below.refl _ _ | with_reducible exact HB2.out | with_reducible exact HB1.out | with_reducible refine Below.drew ?_ | with_reducible refine bel_alloc ?_ ?_ _ | with_reducible refine Below.setCell ?_ ?_ _)); all_goals (first | omega | (simp <;> omega))))
          (first
            | (go_at_call 49; refine (HSL.out _).mono ?_; rintro e wA ⟨rfl, hbA⟩; have HB1 : Hid (Below wr.heap.size wr wA) := (by refine hide (Below.trans ?_ (hbA.mono ?_)); (repeat' (first | with_reducible exact Below.refl _ _ | with_reducible refine Below.drew ?_ | with_reducible refine bel_alloc ?_ ?_ _)); all_goals (first | omega | (simp <;> omega))); have sA := HB1.out.size; have hA1 := hbA.size; (try (refine (have BA : Blk wA wr.heap.size 47 [.int .i64 0, .int .i64 0] := ?_; ?_); (focus (refine Blk.bel ?_ hbA; first | exact Blk.new wr _ [_, _] | exact Blk.new wr.drew _ [_, _]; done)); have BAc0 := BA.cell 0; have BAc1 := BA.cell 1; have BAf0 := BA.frozen 0; have BAf1 := BA.frozen 1; have BAl := BA.lt; simp only [List.getElem?_cons_zero, List.getElem?_cons_succ] at BAc0 BAc1)))
            | (go_at_call 51; refine (HQ.out _ (by first | exact HB1.out | (repeat' (first | with_reducible exact HB1.out | with_reducible refine Below.drew ?_ | with_reducible refine bel_alloc ?_ ?_ _)); all_goals (first | omega | (simp <;> omega)))).mono ?_; rintro e wB ⟨rfl, hbB⟩; have HB2 : Hid (Below wr.heap.size wr wB) := (by refine hide (Below.trans ?_ (hbB.mono ?_)); (repeat' (first | with_reducible exact HB1.out | with_reducible refine Below.drew ?_ | with_reducible refine bel_alloc ?_ ?_ _)); all_goals (first | omega | (simp <;> omega))); have sB := HB2.out.size; have hB1 := hbB.size; (try (refine (have BB : Blk wB wr.heap.size 47 [.int .i64 0, .int .i64 0] := ?_; ?_); (focus (refine Blk.bel ?_ hbB; exact BA; done)); have BBc0 := BB.cell 0; have BBc1 := BB.cell 1; have BBf0 := BB.frozen 0; have BBf1 := BB.frozen 1; have BBl := BB.lt; simp only [List.getElem?_cons_zero, List.getElem?_cons_succ] at BBc0 BBc1)); (try (refine (have BC : Blk wB wA.heap.size 47 [.int .i64 0, .int .i64 0] := ?_; ?_); (focus (refine Blk.bel ?_ hbB; first | exact Blk.new wA _ [_, _] | exact Blk.new wA.drew _ [_, _]; done)); have BCc0 := BC.cell 0; have BCc1 := BC.cell 1; have BCf0 := BC.frozen 0; have BCf1 := BC.frozen 1; have BCl := BC.lt; simp only [List.getElem?_cons_zero, List.getElem?_cons_succ] at BCc0 BCc1))))
        all_goals go_wp2
        all_goals go_meet
        all_goals refine ⟨_, rfl, (by first | exact (BA.set_ 0 _).set_ 1 _ | exact (BB.set_ 0 _).set_ 1 _ | exact (BC.set_ 0 _).set_ 1 _ | exact Blk.new _ _ [_, _]), (by first | exact Nat.le_refl _ | omega | (simp [World.setCell]; omega)), ?_⟩
        all_goals (repeat' (first | with_reducible exact HB2.out | with_reducible refine bel_alloc ?_ ?_ _ | with_reducible refine Below.setCell ?_ ?_ _))
        all_goals first | omega | (simp <;> omega)
      obtain ⟨a, rfl, hBa, hga, hbw⟩ := hcut
      have ax0 := hBa.cell 0
      have ax1 := hBa.cell 1
      simp only [List.getElem?_cons_zero, List.getElem?_cons_succ] at ax0 ax1
      have hza := hBa.lt
      have hownc := ownsRow_bel hown hbw
      have hQc := hQr.bel hbw
      have m0 := hQc.cell 0
      have m1 := hQc.cell 1
      simp only [List.getElem?_cons_zero, List.getElem?_cons_succ] at m0 m1
      have hzc := hQc.lt
      have hbc : Below q V wc := hbr.trans (hbw.mono (by omega))
      have hBc : Below p w wc := bel_tr hBr (by omega) hbw
      have hRc := hRr.bel hbw
      clear hBr hbw hBa
      go_wp2_with (at_builtin; refine wpList_append_own _ rfl _ _ 22 rfl (q + 1) 47 i0 _ 2 16 Try.underlying22 hi iz0 iz1 iz2 rfl (by decide) _ _ _ rfl (hownc.alloc _) ⟨wc.heap.size, 0, none⟩ 1 1 [.int .i64 sqk, .int .i64 1] rfl rfl (World.news_of_block (heap_alloc_new wc _)) (by simp [Value.oneCell']) (by unfold maxLen; omega) (by omega) (by simp; omega) ?_; intro v' w8 hown8 hg8 _; obtain ⟨g8, c8, rfl⟩ := ownsRow_succ hown8; have hQ8 : Blk w8 q 24 [.int .i64 l0, .slice SA k cs] := (hg8.block q (by simp; omega) (fun e => by have := (hownc.lt q e.symm).1; omega)).trans (hQc.bel (alloc_bel _ _)); have n0 := hQ8.cell 0; have n1 := hQ8.cell 1; have n2 := hQ8.frozen 1; simp only [List.getElem?_cons_zero, List.getElem?_cons_succ] at n0 n1; have n3 := hQ8.lt; have hR8 : Blk w8 (p + 1) 24 [.int .i64 0, .slice none 0 0] := (hg8.block (p + 1) (by simp; omega) (fun e => by have := (hownc.lt (p + 1) e.symm).1; omega)).trans (hRc.bel (alloc_bel _ _)); have o0 := hR8.cell 0; have o1 := hR8.cell 1; have o2 := hR8.frozen 0; have o3 := hR8.frozen 1; simp only [List.getElem?_cons_zero, List.getElem?_cons_succ] at o0 o1; have o4 := hR8.lt)
      have hbW : Below p w (((w8.setCell ⟨q, 1, none⟩ (.slice (some ⟨g8, 0, none⟩) (k + 1) c8)).setCell ⟨p + 1, 0, none⟩ (.int .i64 l0)).setCell ⟨p + 1, 1, none⟩ (.slice (some ⟨g8, 0, none⟩) (k + 1) c8)) := (((bel_alloc hBc (by omega) _).grown hg8 (by simp; omega) (fun j hj => by have := (hownc.lt j hj).1; omega)).setCell (by show p ≤ q; omega) _ |>.setCell (by show p ≤ p + 1; omega) _ |>.setCell (by show p ≤ p + 1; omega) _)
      have hRW := ((hR8.far (p := ⟨q, 1, none⟩) (by show p + 1 ≠ q; omega) (.slice (some ⟨g8, 0, none⟩) (k + 1) c8)).set_ 0 (.int .i64 l0)).set_ 1 (.slice (some ⟨g8, 0, none⟩) (k + 1) c8)
      have hownW := own_set (own_set (own_set hown8 (B := q) (by omega) 1 (.slice (some ⟨g8, 0, none⟩) (k + 1) c8)) (B := p + 1) (by omega) 0 (.int .i64 l0)) (B := p + 1) (by omega) 1 (.slice (some ⟨g8, 0, none⟩) (k + 1) c8)
      generalize ((w8.setCell ⟨q, 1, none⟩ (.slice (some ⟨g8, 0, none⟩) (k + 1) c8)).setCell ⟨p + 1, 0, none⟩ (.int .i64 l0)).setCell ⟨p + 1, 1, none⟩ (.slice (some ⟨g8, 0, none⟩) (k + 1) c8) = WE at hbW hRW hownW ⊢
      have v0 := hRW.cell 0
      have v1 := hRW.cell 1
      simp only [List.set_cons_zero, List.set_cons_succ, List.getElem?_cons_zero, List.getElem?_cons_succ] at v0 v1
      refine bodyPost_ret (v := .tuple #[.agg #[.int .i64 l0, .slice (some ⟨g8, 0, none⟩) (k + 1) c8], .int .i64 0, .int .i64 0]) (by simp [results, Try.results23, go_sem, v0, v1]; try rfl) rfl ?_
      rw [HP.out, HL0.out, show l.length = k + 1 by omega, HSK.out]
      refine ⟨.inl ⟨h0.out, some ⟨g8, 0, none⟩, c8, rfl, ?_⟩, by rw [hp]; exact hbW⟩
      rw [gs_append]
      exact RdT.of_own hownW
end Go.Proofs.Ytdeehodekilaiaa
