/- Contracts: heights of points. -/
import Derived.Test.YtdeehodekilaiaaF13
import Derived.Test.YtdeehodekilaiaaF14
import Derived.Test.YtdeehodekilaiaaK1
import Derived.Laws.OwnMore
set_option linter.unusedSimpArgs false
set_option linter.unusedVariables false
namespace Go.Proofs.Ytdeehodekilaiaa
open Go.RowKit
set_option maxRecDepth 100000

/-- The heights of the first k points. -/
def hts (l : List PT) (after width : Int) (L : List G) : Nat → List G
  | 0 => []
  | k + 1 => hts l after width L k ++ [htL l after width L k]
@[simp] theorem hts_length (l : List PT) (after width : Int) (L : List G) (k : Nat) : (hts l after width L k).length = k := by
  induction k with
  | zero => rfl
  | succ k ih => simp [hts, ih]
theorem hts_last (l : List PT) (after width : Int) (L : List G) (k : Nat) (h : k < (hts l after width L (k + 1)).length) : (hts l after width L (k + 1))[k] = htL l after width L k := by
  simp [hts]
theorem htL_zero {l : List PT} {after width : Int} {L : List G} (h : 0 ≤ after) : htL l after width L 0 = (plo l 0, phi l 0) := by
  unfold htL sums
  simp
  omega
theorem htL_next {l : List PT} {after width : Int} {L : List G} {k : Nat} (h : (k : Int) ≠ after) : htL l after width L (k + 1) = ((htL l after width L k).1 + (L.getD k G0).1, (htL l after width L k).2 + (L.getD k G0).2) := by
  unfold htL
  simp only [sums, Prod.mk.injEq]
  constructor
  · omega
  · split <;> split <;> omega
theorem htL_valley {l : List PT} {after width : Int} {L : List G} {k : Nat} (h : (k : Int) = after) : htL l after width L (k + 1) = ((htL l after width L k).1 + (L.getD k G0).1, (htL l after width L k).2 + (L.getD k G0).2 + width) := by
  unfold htL
  simp only [sums, Prod.mk.injEq]
  constructor
  · omega
  · rw [if_pos (by omega), if_neg (by omega)]; omega
theorem htL_bd {l : List PT} {after width : Int} (hT : Tr l after width) {L : List G} (h : Thick L) {k : Nat} (hk : k ≤ 8) : 0 ≤ (htL l after width L k).1 ∧ (htL l after width L k).1 ≤ 400000 ∧ 0 ≤ (htL l after width L k).2 ∧ (htL l after width L k).2 ≤ 400000 := by
  have h1 := sums_bd h k
  have h2 := hT.pt 0 (by have := hT.n0; omega)
  have h3 := hT.w0
  have h4 := hT.w1
  unfold htL
  dsimp only
  split <;> omega
theorem own_ne' {W : World} {base : Nat} {e : TypeId} {size n c g : Nat} {xs : List Value} (h : W.ownsRow base e size (.slice (some ⟨g, 0, none⟩) n c) n xs) {p : Addr} (hp : g ≠ p.block) (u : Value) : (W.setCell p u).ownsRow base e size (.slice (some ⟨g, 0, none⟩) n c) n xs := by
  refine h.kept (row := some p.block) ⟨rfl, rfl, rfl, by simp [World.setCell], fun k _ hne => Below.heap_setCell _ _ _ _ (fun e => hne (by rw [e]))⟩ (.inr ?_)
  intro he
  exact hp (Option.some.inj he)

theorem heightsOf_bad (A : Option Addr) (c : Nat) (after width : Int) (l : List PT) (w : World) (hr : Rd w A (ps l)) (hl : l.length ≤ 1000) (he : (trE l after width).2 ≠ 0) :
    Calls Try.prog 21 #[.agg #[.slice A l.length c, .int .i64 after, .int .i64 width]] w fun r w' => r = .returned (.tuple #[.slice none 0 0, .int .i64 (trE l after width).2]) ∧ Below w.heap.size w w' := by
  have HL := hide (fun W h => laminatedAll_bad A c after width l W h hl he)
  obtain ⟨W0, hW0⟩ : ∃ W0, w.alloc (.cells #[.slice A l.length c, .int .i64 after, .int .i64 width] 30) = W0 := ⟨_, rfl⟩
  have hX0 : Blk W0 w.heap.size 30 [.slice A l.length c, .int .i64 after, .int .i64 width] := by rw [← hW0]; exact Blk.new w _ [_, _, _]
  have hB0 : Below w.heap.size w W0 := by rw [← hW0]; exact alloc_bel w _
  have hr0 := hr.bel hB0
  have HW := hide hW0
  clear hW0 hr
  have c0 := hX0.cell 0; have c1 := hX0.cell 1; have c2 := hX0.cell 2; simp only [List.getElem?_cons_zero, List.getElem?_cons_succ] at c0 c1 c2
  have z0 := hX0.lt
  have e1 : ((trE l after width).2 != 0) = true := by simpa using he
  clear he
  generalize (trE l after width).2 = E at HL e1 ⊢
  go_enter Try.func21, Try.ntmps21
  go_upto_region 1 with fail
  rw [HW.out]
  go_wp2_with (first | (go_at_call 19; refine (HL.out _ hr0).mono ?_; rintro e w1 ⟨rfl, hb1⟩))
  go_ret2
  exact ⟨rfl, tr hB0 hb1 hB0.size⟩
theorem heightsOf_clash (A : Option Addr) (c : Nat) (after width : Int) (l : List PT) (w : World) (hr : Rd w A (ps l)) (hT : Tr l after width) (h0 : (lam l after width (l.length - 1)).2 ≠ 0) :
    Calls Try.prog 21 #[.agg #[.slice A l.length c, .int .i64 after, .int .i64 width]] w fun r w' => r = .returned (.tuple #[.slice none 0 0, .int .i64 13]) ∧ Below w.heap.size w w' := by
  have HL : Hid (∀ W, Rd W A (ps l) → Calls Try.prog 19 #[.agg #[.slice A l.length c, .int .i64 after, .int .i64 width]] W fun r w' => r = .returned (.tuple #[.slice none 0 0, .int .i64 (lam l after width (l.length - 1)).2, .int .i64 13]) ∧ Below W.heap.size W w') := fun W h => (laminatedAll_ok A c after width l W h hT).mono fun r w' hx => by
    obtain ⟨h, hb⟩ := hx
    rcases h with ⟨h, _⟩ | ⟨_, h⟩
    · exact absurd h h0
    · exact ⟨h, hb⟩
  obtain ⟨W0, hW0⟩ : ∃ W0, w.alloc (.cells #[.slice A l.length c, .int .i64 after, .int .i64 width] 30) = W0 := ⟨_, rfl⟩
  have hX0 : Blk W0 w.heap.size 30 [.slice A l.length c, .int .i64 after, .int .i64 width] := by rw [← hW0]; exact Blk.new w _ [_, _, _]
  have hB0 : Below w.heap.size w W0 := by rw [← hW0]; exact alloc_bel w _
  have hr0 := hr.bel hB0
  have HW := hide hW0
  clear hW0 hr
  have c0 := hX0.cell 0; have c1 := hX0.cell 1; have c2 := hX0.cell 2; simp only [List.getElem?_cons_zero, List.getElem?_cons_succ] at c0 c1 c2
  have z0 := hX0.lt
  clear h0
  go_enter Try.func21, Try.ntmps21
  go_upto_region 1 with fail
  rw [HW.out]
  go_wp2_with (first | (go_at_call 19; refine (HL.out _ hr0).mono ?_; rintro e w1 ⟨rfl, hb1⟩))
  go_ret2
  exact ⟨rfl, tr hB0 hb1 hB0.size⟩

set_option maxHeartbeats 4000000 in
theorem heightsOf_ok (A : Option Addr) (c : Nat) (after width : Int) (l : List PT) (w : World) (hr : Rd w A (ps l)) (hT : Tr l after width) (h0 : (lam l after width (l.length - 1)).2 = 0) :
    Calls Try.prog 21 #[.agg #[.slice A l.length c, .int .i64 after, .int .i64 width]] w fun r w' => (∃ A' c', r = .returned (.tuple #[.slice A' l.length c', .int .i64 0]) ∧ Rd w' A' (gs (hts l after width (lam l after width (l.length - 1)).1 l.length))) ∧ Below w.heap.size w w' := by
  obtain ⟨i0, hi, iz0, iz1, iz2⟩ := info_parts Try.infoR
  have hn0 := hT.n0
  have hn1 := hT.n1
  have HL : Hid (∀ W, Rd W A (ps l) → Calls Try.prog 19 #[.agg #[.slice A l.length c, .int .i64 after, .int .i64 width]] W fun r w' => (∃ A c, r = .returned (.tuple #[.slice A (l.length - 1) c, .int .i64 0, .int .i64 0]) ∧ RdT w' 51 A (gs (lam l after width (l.length - 1)).1)) ∧ Below W.heap.size W w') := fun W h => (laminatedAll_ok A c after width l W h hT).mono fun r w' hx => by
    obtain ⟨h, hb⟩ := hx
    rcases h with ⟨_, h⟩ | ⟨h, _⟩
    · exact ⟨h, hb⟩
    · exact absurd h0 h
  have hLn := lam_length h0
  have hTh := lam_thick hT (k := l.length - 1) (by omega)
  have hp0 := hT.pt 0 (by omega)
  have hw0 := hT.w0
  have hw1 := hT.w1
  have HZ := hide (htL_zero (l := l) (after := after) (width := width) (L := (lam l after width (l.length - 1)).1) hT.a0)
  obtain ⟨L, hL⟩ : ∃ L, (lam l after width (l.length - 1)).1 = L := ⟨_, rfl⟩
  rw [hL] at HL hLn hTh HZ ⊢
  have HBD := hide (fun k h => htL_bd hT hTh (k := k) h)
  have HTH := hide (fun k => hTh.at k)
  clear hL h0 hT hTh
  obtain ⟨N, hN⟩ : ∃ N, l.length - 1 = N := ⟨_, rfl⟩
  have HLN : Hid (l.length = N + 1) := by show _ = _; omega
  have hlN1 : l.length ≤ N + 1 := by omega
  have hlN2 : N + 1 ≤ l.length := by omega
  rw [hN] at HL hLn
  clear hN
  have HP : Hid (∀ A' : Option Addr, ∀ w' : World, Rd w' A' (gs (hts l after width L (N + 1))) → Rd w' A' (gs (hts l after width L l.length))) := fun A' w' h => by rw [HLN.out]; exact h
  obtain ⟨W0, hW0⟩ : ∃ W0, w.alloc (.cells #[.slice A l.length c, .int .i64 after, .int .i64 width] 30) = W0 := ⟨_, rfl⟩
  have hX0 : Blk W0 w.heap.size 30 [.slice A l.length c, .int .i64 after, .int .i64 width] := by rw [← hW0]; exact Blk.new w _ [_, _, _]
  have hB0 : Below w.heap.size w W0 := by rw [← hW0]; exact alloc_bel w _
  have hr0 := hr.bel hB0
  have HW := hide hW0
  clear hW0 hr
  have c0 := hX0.cell 0; have c1 := hX0.cell 1; have c2 := hX0.cell 2; simp only [List.getElem?_cons_zero, List.getElem?_cons_succ] at c0 c1 c2
  have z0 := hX0.lt
  obtain ⟨b, off, rfl, hblt, _, _, _⟩ := hr0.p_at (show 0 < l.length by omega)
  go_enter Try.func21, Try.ntmps21
  go_upto_region 1 with fail
  rw [HW.out]
  go_upto_region 4 with (first | (go_at_call 19; refine (HL.out _ hr0).mono ?_; rintro e w1 ⟨⟨LA, lc, rfl, hLT⟩, hb1⟩; have hX1 := hX0.bel hb1; have k0 := hX1.cell 0; have k1 := hX1.cell 1; have k2 := hX1.cell 2; simp only [List.getElem?_cons_zero, List.getElem?_cons_succ] at k0 k1 k2; have zk := hX1.lt))
  have hr1 := hr0.bel hb1
  have hB1 := bel_tr hB0 (by omega) hb1
  have hL1 := hLT.1
  have zx := hX1.lt
  obtain ⟨_, _, y1, y2⟩ := hr1.p_in (show 0 < l.length by omega)
  rw [← getD_at (show 0 < l.length by omega) P0] at y1 y2
  rw [show (l.getD 0 P0).2.1 = plo l 0 from rfl] at y1
  rw [show (l.getD 0 P0).2.2 = phi l 0 from rfl] at y2
  simp only [Nat.zero_mul, Nat.add_zero] at y1 y2
  have h0l : 0 < l.length := by omega
  go_wp2
  obtain ⟨q, hq⟩ : ∃ q, w1.heap.size = q := ⟨_, rfl⟩
  obtain ⟨w2, hW2⟩ : ∃ W, w1.alloc (.cells #[.int .i64 (plo l 0), .int .i64 (phi l 0)] 51) = W := ⟨_, rfl⟩
  have hb2 : Below q w1 w2 := by rw [← hW2, ← hq]; exact alloc_bel _ _
  have hown2 : w2.ownsRow q 51 2 (.slice (some ⟨q, 0, none⟩) 1 1) 1 [.int .i64 (plo l 0), .int .i64 (phi l 0)] := by rw [← hW2, ← hq]; exact World.ownsRow_lit w1 #[.int .i64 (plo l 0), .int .i64 (phi l 0)] 1 (Nat.le_refl _) (by unfold maxLen; omega) rfl
  have HS : Hid (gs (hts l after width L 1) = [.int .i64 (plo l 0), .int .i64 (phi l 0)]) := by show _ = _; simp only [hts]; rw [HZ.out]; rfl
  rw [hW2]
  clear hW2 y1 y2 k0 k1 k2 c0 c1 c2 zk
  have hq1 : q ≤ w1.heap.size := by omega
  have hq2 : w1.heap.size ≤ q := by omega
  rw [hq]
  clear hq
  go_loopw [7, 28] (fun v x wr => ∃ k : Nat, k ≤ N ∧ x = .int .i64 k ∧ Below q w1 wr ∧ wr.ownsRow q 51 2 v (k + 1) (gs (hts l after width L (k + 1)))) (fun _ x _ => N - (intOf x).toNat)
  case atStart => exact ⟨0, Nat.zero_le _, rfl, hb2, by have h := hown2; rw [← HS.out] at h; exact h⟩
  case round =>
    obtain ⟨k, hk, rfl, hbr, hown⟩ := hrel
    have hXr := hX1.below hbr (by omega)
    have hLr := hL1.below hbr (by omega)
    have hqr : q ≤ wr.heap.size := by have := hbr.size; omega
    obtain ⟨rg, rc, rfl, hrg, hrl⟩ := World.ownsRow.form hown (by omega)
    by_cases hlt : k < N
    · have hkl : k < L.length := by omega
      obtain ⟨lb, loff, rfl, hlb, t0, t1⟩ := hLr.g_at hkl
      have hth := HTH.out k
      have hbd := HBD.out k (by omega)
      obtain ⟨ga, gb⟩ := gs_at (l := hts l after width L (k + 1)) (k := k) (by simp)
      rw [hts_last] at ga gb
      have x0 := (hown.cellAt (k * 2) (by omega)).trans ga
      have x1 := (hown.cellAt (k * 2 + 1) (by omega)).trans gb
      have HN1 := hide (fun h => htL_next (l := l) (after := after) (width := width) (L := L) (k := k) h)
      have HN2 := hide (fun h => htL_valley (l := l) (after := after) (width := width) (L := L) (k := k) h)
      have HX : Hid (hts l after width L (k + 1 + 1) = hts l after width L (k + 1) ++ [htL l after width L (k + 1)]) := rfl
      rw [getD_at hkl] at hth HN1 HN2
      generalize (htL l after width L k).1 = ha at x0 hbd HN1 HN2
      generalize (htL l after width L k).2 = hb' at x1 hbd HN1 HN2
      generalize L[k].1 = ta at t0 hth HN1 HN2
      generalize L[k].2 = tb at t1 hth HN1 HN2
      clear ga gb
      have u1 : IntKind.i64.wrap (ha + ta) = ha + ta := by simp (disch := omega) only [IntWalk.i64_in]
      have u2 : IntKind.i64.wrap (hb' + tb) = hb' + tb := by simp (disch := omega) only [IntWalk.i64_in]
      have u3 : IntKind.i64.wrap (hb' + tb + width) = hb' + tb + width := by simp (disch := omega) only [IntWalk.i64_in]
      have hkI : (k : Int) < (k : Int) + 1 := by omega
      go_upto_region 8 with fail
      obtain ⟨W3, hW3⟩ : ∃ W3, wr.alloc (.cells #[.int .i64 ta, .int .i64 tb] 51) = W3 := ⟨_, rfl⟩
      have hb3 : Below wr.heap.size wr W3 := by rw [← hW3]; exact alloc_bel _ _
      have hP3 : Blk W3 wr.heap.size 51 [.int .i64 ta, .int .i64 tb] := by rw [← hW3]; exact Blk.new wr _ [_, _]
      have hown3 := ownsRow_bel hown hb3
      have hX3 := hXr.bel hb3
      have hbr3 : Below q w1 W3 := hbr.trans (hb3.mono hqr)
      have y0 := (hb3.cell (p := ⟨rg, k * 2, none⟩) hrl).trans x0
      have y1 := (hb3.cell (p := ⟨rg, k * 2 + 1, none⟩) hrl).trans x1
      rw [hW3]
      clear hW3 t0 t1 x0 x1 hown hXr
      have g0 := hP3.cell 0; have g1 := hP3.cell 1; simp only [List.getElem?_cons_zero, List.getElem?_cons_succ] at g0 g1
      have z4 := hP3.lt
      have hrl3 : rg < W3.heap.size := by omega
      go_cut [10] from 33 to 49 (fun t wx => ∃ g : Nat, t = .pointer (some ⟨g, 0, none⟩) ∧ Blk wx g 51 [.int .i64 (ha + ta), .int .i64 (hb' + tb)] ∧ W3.heap.size ≤ g ∧ Below W3.heap.size W3 wx)
      case first =>
        go_region_held3 (fun w' => (∀ b o, b < W3.heap.size → w'.cell? ⟨b, o, none⟩ = W3.cell? ⟨b, o, none⟩) ∧ Below W3.heap.size W3 w')
          ((refine kp ?_; (repeat' (first | with_reducible exact Below.refl _ _ | with_reducible refine Below.drew ?_ | with_reducible refine bel_alloc ?_ ?_ _ | with_reducible refine Below.setCell ?_ ?_ _)); all_goals (first | omega | (simp <;> omega))))
          (fail)
        all_goals go_wp2
        all_goals go_meet
        all_goals refine ⟨_, rfl, (by first | exact Blk.new _ _ [_, _] | exact ((Blk.new _ _ [_, _]).set_ 0 _).set_ 1 _), (by first | exact Nat.le_refl _ | omega | (simp [World.setCell]; omega)), ?_⟩
        all_goals (repeat' (first | with_reducible exact Below.refl _ _ | with_reducible refine Below.drew ?_ | with_reducible refine bel_alloc ?_ ?_ _ | with_reducible refine Below.setCell ?_ ?_ _))
        all_goals first | omega | (simp <;> omega)
      obtain ⟨g, rfl, hG, hgz, hbw⟩ := hcut
      have hown4 := ownsRow_bel hown3 hbw
      have hX4 := hX3.bel hbw
      have hbr4 : Below q w1 wc := hbr3.trans (hbw.mono (by omega))
      have hq4 : q ≤ wc.heap.size := by have := hbw.size; omega
      clear g0 g1 z4 y0 y1 hP3
      have c0 := hX4.cell 0; have c1 := hX4.cell 1; have c2 := hX4.cell 2; simp only [List.getElem?_cons_zero, List.getElem?_cons_succ] at c0 c1 c2
      have g0 := hG.cell 0; have g1 := hG.cell 1; simp only [List.getElem?_cons_zero, List.getElem?_cons_succ] at g0 g1
      have gf := hG.frozen 1
      have zg := hG.lt
      have zx4 := hX4.lt
      by_cases hv : (k : Int) = after
      · have HF : Hid (hts l after width L (k + 1 + 1) = hts l after width L (k + 1) ++ [(ha + ta, hb' + tb + width)]) := by show _ = _; rw [HX.out, HN2.out hv]
        have e1 : ((k : Int) == after) = true := by simpa using hv
        clear hv HN1 HN2 HX
        go_upto_region 11 with fail
        obtain ⟨W5, hW5⟩ : ∃ W, wc.setCell ⟨g, 1, none⟩ (.int .i64 (hb' + tb + width)) = W := ⟨_, rfl⟩
        have hown5 : W5.ownsRow q 51 2 (.slice (some ⟨rg, 0, none⟩) (k + 1) rc) (k + 1) (gs (hts l after width L (k + 1))) := by rw [← hW5]; exact own_ne' hown4 (by show rg ≠ g; omega) _
        have hbr5 : Below q w1 W5 := by rw [← hW5]; exact hbr4.setCell (by show q ≤ g; omega) _
        have hG5 : Blk W5 g 51 [.int .i64 (ha + ta), .int .i64 (hb' + tb + width)] := by rw [← hW5]; exact hG.set_ 1 _
        have hq5 : q ≤ W5.heap.size := by rw [← hW5]; simpa [World.setCell] using hq4
        rw [hW5]
        clear hW5 g0 g1 gf zg
        have g0 := hG5.cell 0; have g1 := hG5.cell 1; simp only [List.getElem?_cons_zero, List.getElem?_cons_succ] at g0 g1
        have zg := hG5.lt
        go_wp2_with (at_builtin; refine wpList_append_own _ rfl _ _ 57 rfl q 51 i0 _ 2 16 Try.underlying57 hi iz0 iz1 iz2 rfl (by decide) _ _ _ rfl (hown5.alloc _) ⟨W5.heap.size, 0, none⟩ 1 1 [.int .i64 (ha + ta), .int .i64 (hb' + tb + width)] rfl rfl (World.news_of_block (heap_alloc_new W5 _)) (by simp [Value.oneCell']) (by unfold maxLen; omega) (by omega) (by simp; omega) ?_; intro v' w8 hown8 hg8 _)
        have hb8 : Below q w1 w8 := (bel_alloc hbr5 (by omega) _).grown hg8 (by simp; omega) (fun j hj => by have := (hown5.lt j hj).1; omega)
        go_roundw
        case rel => exact ⟨k + 1, by omega, by go_num, hb8, by rw [HF.out, gs_append]; simpa [gs_cons] using hown8⟩
        case measure => simp [intOf]; omega
      · have HF : Hid (hts l after width L (k + 1 + 1) = hts l after width L (k + 1) ++ [(ha + ta, hb' + tb)]) := by show _ = _; rw [HX.out, HN1.out hv]
        have e1 : ((k : Int) == after) = false := by simpa using hv
        clear hv HN1 HN2 HX
        go_upto_region 11 with fail
        go_wp2_with (at_builtin; refine wpList_append_own _ rfl _ _ 57 rfl q 51 i0 _ 2 16 Try.underlying57 hi iz0 iz1 iz2 rfl (by decide) _ _ _ rfl (hown4.alloc _) ⟨wc.heap.size, 0, none⟩ 1 1 [.int .i64 (ha + ta), .int .i64 (hb' + tb)] rfl rfl (World.news_of_block (heap_alloc_new wc _)) (by simp [Value.oneCell']) (by unfold maxLen; omega) (by omega) (by simp; omega) ?_; intro v' w8 hown8 hg8 _)
        have hb8 : Below q w1 w8 := (bel_alloc hbr4 (by omega) _).grown hg8 (by simp; omega) (fun j hj => by have := (hown4.lt j hj).1; omega)
        go_roundw
        case rel => exact ⟨k + 1, by omega, by go_num, hb8, by rw [HF.out, gs_append]; simpa [gs_cons] using hown8⟩
        case measure => simp [intOf]; omega
    · obtain rfl : k = N := by omega
      have HP2 := HP.out (some ⟨rg, 0, none⟩) wr (Rd.of_own hown)
      have eN : ((k + 1 : Nat)) = l.length := by omega
      have HEN := hide eN
      clear eN
      go_wp2
      exact bodyPost_ret (v := .tuple #[.slice (some ⟨rg, 0, none⟩) (k + 1) rc, .int .i64 0]) (by simp [results, Try.results21, go_sem]; try rfl) rfl ⟨⟨some ⟨rg, 0, none⟩, rc, by rw [HEN.out], HP2⟩, hB1.trans (hbr.mono (by omega))⟩
end Go.Proofs.Ytdeehodekilaiaa
