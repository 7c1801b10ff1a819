/- Contracts: the reference of offsets. -/
import Derived.Test.YtmdmkmfemhkfgaaE15
set_option linter.unusedSimpArgs false
set_option linter.unusedVariables false
set_option linter.unusedSimpArgs false
set_option linter.unusedVariables false
namespace Go.Proofs.Ytmdmkmfemhkfgaa
open Go.RowKit
set_option maxRecDepth 100000

set_option maxHeartbeats 1000000 in
theorem refOffsetBy_c (s t r drift T : Int) (w : World) (hx : exE (s, t, r) = 0) (hd : driftE drift = 0) (hT : tickE T = 0) :
    Calls Try.prog 18 #[.agg #[.int .i64 s, .int .i64 t, .int .i64 r], .int .i64 drift, .int .i64 T] w fun e w' => e = .returned (.agg #[.int .i64 (offV (s, t, r) drift T).1, .int .i64 (offV (s, t, r) drift T).2]) ∧ Below w.heap.size w w' := by
  obtain ⟨⟨s0, s1⟩, ⟨t0, t1⟩, ⟨r0, r1⟩, hsr⟩ := exE_zero hx
  obtain ⟨d0, d1⟩ := driftE_zero hd
  obtain ⟨T0, T1⟩ := tickE_zero hT
  dsimp only at s0 s1 t0 t1 r0 r1 hsr
  have hf := farE_bd ⟨s0, s1⟩ ⟨r0, r1⟩ ⟨T0, T1⟩
  have hm := mul_bd d0 d1 hf.1 hf.2
  have hu := upD_bd hm.1 (show (1 : Int) ≤ 1000 by omega)
  have HR : Hid (offV (s, t, r) drift T = (t - r - upD (drift * farE s r T) 1000, t - s + upD (drift * farE s r T) 1000)) := rfl
  have HF : Hid (farE s r T = max (max (s - T) 0) (T - r)) := rfl
  have HU := hide (fun W => ceil_c (drift * farE s r T) 1000 W (by omega) (by omega) (by omega) (by omega))
  clear hx hd hT
  have hd : (if (if T < s then s - T else 0) < T - r then T - r else if T < s then s - T else 0) = farE s r T := by
    rw [HF.out]; omega
  clear HF
  generalize farE s r T = d at *
  obtain ⟨m, hmm⟩ : ∃ m, drift * d = m := ⟨_, rfl⟩
  rw [hmm] at HU hu hm HR
  generalize upD m 1000 = u at *
  obtain ⟨W, hW⟩ : ∃ W, (w.alloc (.cells #[.int .i64 s, .int .i64 t, .int .i64 r] 33)).alloc (.cells #[.int .i64 0, .int .i64 0] 26) = W := ⟨_, rfl⟩
  have h2 := two_new w 33 26 [.int .i64 s, .int .i64 t, .int .i64 r] [.int .i64 0, .int .i64 0]
  have hX : Blk W w.heap.size 33 [.int .i64 s, .int .i64 t, .int .i64 r] := by rw [← hW]; exact h2.1
  have hY : Blk W (w.heap.size + 1) 26 [.int .i64 0, .int .i64 0] := by rw [← hW]; exact h2.2.1
  have hB : Below w.heap.size w W := by rw [← hW]; exact h2.2.2
  have HW := hide hW
  clear hW h2
  have c0 := hX.cell 0; have c1 := hX.cell 1; have c2 := hX.cell 2; simp only [List.getElem?_cons_zero, List.getElem?_cons_succ] at c0 c1 c2
  have k0 := hY.cell 0; have k1 := hY.cell 1; simp only [List.getElem?_cons_zero, List.getElem?_cons_succ] at k0 k1
  have hzX := hX.lt
  have hzY := hY.lt
  have f0 := hY.frozen 0
  have f1 := hY.frozen 1
  go_enter Try.func18, Try.ntmps18
  go_upto_region 1 with fail
  rw [HW.out]
  go_upto_region 2 with fail
  go_upto_region 3 with (first | (go_at_call 26; refine (HU.out _).mono ?_; rintro e_ w_ ⟨rfl, rfl⟩))
  go_wp2
  obtain ⟨WE, hWE⟩ : ∃ WE, (W.setCell ⟨w.heap.size + 1, 0, none⟩ (.int .i64 (t - r - u))).setCell ⟨w.heap.size + 1, 1, none⟩ (.int .i64 (t - s + u)) = WE := ⟨_, rfl⟩
  rw [hWE]
  have hE : Blk WE (w.heap.size + 1) 26 [.int .i64 (t - r - u), .int .i64 (t - s + u)] := by rw [← hWE]; exact (hY.set_ 0 _).set_ 1 _
  have hBE : Below w.heap.size w WE := by rw [← hWE]; exact (hB.setCell (by show w.heap.size ≤ w.heap.size + 1; omega) _).setCell (by show w.heap.size ≤ w.heap.size + 1; omega) _
  clear hWE
  have y0 := hE.cell 0; have y1 := hE.cell 1; simp only [List.getElem?_cons_zero, List.getElem?_cons_succ] at y0 y1
  exact bodyPost_ret (v := .agg #[.int .i64 (t - r - u), .int .i64 (t - s + u)]) (by simp [results, Try.results18, go_sem, y0, y1]; try rfl) rfl ⟨(by rw [HR.out]), hBE⟩


theorem comR_self (a : G) : comR a a = a := by
  obtain ⟨a1, a2⟩ := a
  unfold comR
  dsimp only
  rw [Prod.mk.injEq]
  exact ⟨by omega, by omega⟩
theorem comA_cons (a : G) (L : List G) : comA (a :: L) = L.foldl comR a := by
  unfold comA
  rw [List.foldl_cons, List.headD_cons, comR_self]
set_option maxHeartbeats 2000000 in
theorem refOffsetAt_c (A : Option Addr) (c : Nat) (l : List PT) (drift T : Int) (w : World) (hr : Rd w A (ps l)) (hl : l.length ≤ 1000) (he : offE l drift T = 0) :
    Calls Try.prog 20 #[.slice A l.length c, .int .i64 drift, .int .i64 T] w fun e w' => e = .returned (.tuple #[.agg #[.int .i64 (comA (offL l drift T)).1, .int .i64 (comA (offL l drift T)).2], .bool (decide ((comA (offL l drift T)).1 ≤ (comA (offL l drift T)).2))]) ∧ Below w.heap.size w w' := by
  have hO := offE_zero he
  have hn0 := hO.n0
  have h00 : 0 < l.length := hn0
  have HO := hide (fun (k : Nat) (h : k < l.length) W => refOffsetBy_c l[k].1 l[k].2.1 l[k].2.2 drift T W (hO.ex k h) hO.d hO.t)
  have HL := hide (fun (k : Nat) (h : k < l.length) => offL_at (l := l) (drift := drift) (T := T) h)
  have hLl := offL_length l drift T
  have HC : Hid (∀ h : 0 < (offL l drift T).length, comA (offL l drift T) = ((offL l drift T).drop 1).foldl comR ((offL l drift T)[0])) := by
    intro h
    obtain ⟨a, L, e⟩ : ∃ a L, offL l drift T = a :: L := by
      cases hL : offL l drift T with
      | nil => rw [hL] at h; simp at h
      | cons a L => exact ⟨a, L, rfl⟩
    simp only [e, comA_cons, List.drop_succ_cons, List.drop_zero, List.getElem_cons_zero]
  generalize comA (offL l drift T) = C at HC ⊢
  obtain ⟨o, ho'⟩ : ∃ o : G, o = offV (l[0]'h00) drift T := ⟨_, rfl⟩
  have ho := hide ho'
  clear ho'
  have HC2 : Hid (C = ((offL l drift T).drop 1).foldl comR o) := by
    show _ = _
    rw [HC.out (by omega), HL.out 0 (by omega), ho.out]
  have HS : Hid (∀ k (h1 : 1 ≤ k) (h : k < l.length), ((offL l drift T).drop 1).take k = ((offL l drift T).drop 1).take (k - 1) ++ [offV l[k] drift T]) := by
    intro k h1 h
    obtain ⟨j, rfl⟩ : ∃ j, k = j + 1 := ⟨k - 1, by omega⟩
    rw [List.take_succ_eq_append_getElem (by rw [List.length_drop]; omega), List.getElem_drop, Nat.add_sub_cancel]
    congr 2
    rw [← HL.out (j + 1) h]
    congr 1
    omega
  clear he hO HC HL
  generalize offL l drift T = L at HC2 HS hLl
  have hY0 := Blk.new w 26 [.int .i64 0, .int .i64 0]
  have hB0 := alloc_bel w (.cells #[.int .i64 0, .int .i64 0] 26)
  have hr0 := hr.alloc (.cells #[.int .i64 0, .int .i64 0] 26)
  have hz := hY0.lt
  obtain ⟨b, off, rfl, hblt, x0, x1, x2⟩ := hr0.p_at (show 0 < l.length by omega)
  have HO0 : Hid (∀ W, Calls Try.prog 18 #[.agg #[.int .i64 (l[0]'h00).1, .int .i64 (l[0]'h00).2.1, .int .i64 (l[0]'h00).2.2], .int .i64 drift, .int .i64 T] W fun e w' => e = .returned (.agg #[.int .i64 o.1, .int .i64 o.2]) ∧ Below W.heap.size W w') := fun W => by
    have := HO.out 0 (by omega) W
    rwa [show offV ((l[0]'h00).1, (l[0]'h00).2.1, (l[0]'h00).2.2) drift T = o from ho.out.symm] at this
  simp only [Nat.zero_mul, Nat.add_zero] at x0 x1 x2
  have hl1 : (0 : Int) < (l.length : Int) := by omega
  generalize hl0 : l[0]'h00 = z at HO0 x0 x1 x2
  have HZ := hide hl0
  clear hl0
  go_enter Try.func20, Try.ntmps20
  go_upto_region 2 with (first | (go_at_call 18; refine (HO0.out _).mono ?_; rintro e_ w1 ⟨rfl, hb1⟩; have hY1 := hY0.bel hb1))
  have hB1 := bel_tr hB0 (by simp) hb1
  have hr1 := hr0.bel hb1
  have hz1 := hY1.lt
  obtain ⟨w2, hW2⟩ : ∃ W, w1.alloc (.cells #[.int .i64 o.1, .int .i64 o.2] 26) = W := ⟨_, rfl⟩
  have hb2 : Below w1.heap.size w1 w2 := by rw [← hW2]; exact alloc_bel _ _
  have hX2 : Blk w2 w1.heap.size 26 [.int .i64 o.1, .int .i64 o.2] := by rw [← hW2]; exact Blk.new w1 _ [_, _]
  rw [hW2]
  clear hW2 x0 x1 x2 hY0 hr0 hB0 hr
  have hlow := hr1.low
  obtain ⟨p, hp⟩ : ∃ p, w1.heap.size = p := ⟨_, rfl⟩
  rw [hp] at hX2 hb2 hlow ⊢
  go_wp2
  go_loopw [9] (fun x wr => ∃ k : Nat, 1 ≤ k ∧ k ≤ l.length ∧ x = .int .i64 k ∧ Below p w1 wr ∧ ∃ q : G, Blk wr p 26 [.int .i64 q.1, .int .i64 q.2] ∧ Hid (q = ((L.drop 1).take (k - 1)).foldl comR o)) (fun x _ => l.length - (intOf x).toNat)
  case atStart => exact ⟨1, by omega, by omega, rfl, hb2, o, hX2, rfl⟩
  case round =>
    obtain ⟨k, hk1, hk, rfl, hbr, ⟨q1, q2⟩, hX, hq⟩ := hrel
    have hrr := hr1.below hbr (by omega)
    have hsz := hbr.size
    dsimp only at hX
    have hYr := hY1.below hbr (by omega)
    have hzX := hX.lt
    have c0 := hX.cell 0; have c1 := hX.cell 1; simp only [List.getElem?_cons_zero, List.getElem?_cons_succ] at c0 c1
    by_cases hlt : k < l.length
    · obtain ⟨_, x0, x1, x2⟩ := hrr.p_in hlt
      have HF : Hid (comR (q1, q2) (offV l[k] drift T) = ((L.drop 1).take (k + 1 - 1)).foldl comR o) := by
        show _ = _
        rw [Nat.add_sub_cancel, HS.out k hk1 hlt, List.foldl_append, ← hq.out]; rfl
      have HOK : Hid (∀ W, Calls Try.prog 18 #[.agg #[.int .i64 l[k].1, .int .i64 l[k].2.1, .int .i64 l[k].2.2], .int .i64 drift, .int .i64 T] W fun e w' => e = .returned (.agg #[.int .i64 (offV l[k] drift T).1, .int .i64 (offV l[k] drift T).2]) ∧ Below W.heap.size W w') := fun W => HO.out k hlt W
      generalize offV l[k] drift T = g at HF HOK
      obtain ⟨g1, g2⟩ := g
      have h1 : (if q1 < g1 then g1 else q1) = (comR (q1, q2) (g1, g2)).1 := by show _ = max q1 g1; omega
      have h2 : (if g2 < q2 then g2 else q2) = (comR (q1, q2) (g1, g2)).2 := by show _ = min q2 g2; omega
      generalize comR (q1, q2) (g1, g2) = m at HF h1 h2
      go_upto_region 6 with (first | (go_at_call 18; refine (HOK.out _).mono ?_; rintro e_ w5 ⟨rfl, hb5⟩))
      have hX5 := hX.bel hb5
      obtain ⟨w6, hw6⟩ : ∃ W, w5.alloc (.cells #[.int .i64 g1, .int .i64 g2] 26) = W := ⟨_, rfl⟩
      have hG6 : Blk w6 w5.heap.size 26 [.int .i64 g1, .int .i64 g2] := by rw [← hw6]; exact Blk.new w5 _ [_, _]
      have hb6 : Below w5.heap.size w5 w6 := by rw [← hw6]; exact alloc_bel _ _
      have hX6 := hX5.bel hb6
      have hB6 : Below p w1 w6 := bel_tr (bel_tr hbr (by omega) hb5) (by have := hb5.size; omega) hb6
      rw [hw6]
      clear hw6 hX5
      have g0 := hG6.cell 0; have g1 := hG6.cell 1; simp only [List.getElem?_cons_zero, List.getElem?_cons_succ] at g0 g1
      have k0 := hX6.cell 0; have k1 := hX6.cell 1; simp only [List.getElem?_cons_zero, List.getElem?_cons_succ] at k0 k1
      have hzG := hG6.lt
      have hz6 := hX6.lt
      have f0 := hX6.frozen 0
      have f1 := hX6.frozen 1
      go_wp2
      have hX7 : Blk ((w6.setCell ⟨p, 0, none⟩ (.int .i64 m.1)).setCell ⟨p, 1, none⟩ (.int .i64 m.2)) p 26 [.int .i64 m.1, .int .i64 m.2] := (hX6.set_ 0 _).set_ 1 _
      go_roundw
      case rel => exact ⟨k + 1, by omega, by omega, by go_num, (hB6.setCell (by show p ≤ p; omega) _).setCell (by show p ≤ p; omega) _, m, hX7, HF⟩
      case measure => simp [intOf]; omega
    · obtain rfl : k = l.length := by omega
      have HR : Hid (C = (q1, q2)) := by
        show _ = _
        rw [HC2.out, hq.out, List.take_of_length_le (by rw [List.length_drop]; omega)]
      have hBr : Below w.heap.size w wr := hB1.trans (hbr.mono (by have := hB1.size; omega))
      have f0 := hYr.frozen 0
      have f1 := hYr.frozen 1
      have hzY := hYr.lt
      have y0 := hYr.cell 0; have y1 := hYr.cell 1; simp only [List.getElem?_cons_zero, List.getElem?_cons_succ] at y0 y1
      go_upto_region 7 with fail
      go_region
      go_wp2
      obtain ⟨WE, hWE⟩ : ∃ WE, ((wr.setCell ⟨w.heap.size, 0, none⟩ (.int .i64 q1)).setCell ⟨w.heap.size, 1, none⟩ (.int .i64 q2)).drew = WE := ⟨_, rfl⟩
      rw [hWE]
      have hE : Blk WE w.heap.size 26 [.int .i64 q1, .int .i64 q2] := by rw [← hWE]; exact ((hYr.set_ 0 _).set_ 1 _).drewN 1
      have hBE : Below w.heap.size w WE := by rw [← hWE]; exact ((hBr.setCell (Nat.le_refl _) _).setCell (Nat.le_refl _) _).drew
      clear hWE
      have v0 := hE.cell 0; have v1 := hE.cell 1; simp only [List.getElem?_cons_zero, List.getElem?_cons_succ] at v0 v1
      exact bodyPost_ret (v := .tuple #[.agg #[.int .i64 q1, .int .i64 q2], .bool (decide (q1 ≤ q2))]) (by simp [results, Try.results20, go_sem, v0, v1]; try rfl) rfl ⟨by rw [HR.out], hBE⟩
end Go.Proofs.Ytmdmkmfemhkfgaa
