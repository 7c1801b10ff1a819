/- Contracts: laminations of the reference. -/
import Derived.Test.YtgnhkjfdicdcmaaF11
import Derived.Test.YtgnhkjfdicdcmaaK3
namespace Go.Proofs.Ytgnhkjfdicdcmaa
open Go.RowKit
set_option maxRecDepth 100000



/-- The answer of the reference's lamination. -/
def RefLam (l : List PT) (after width : Int) (N : Nat) (w : World) (r : Ending) (w' : World) : Prop :=
  (((lam l after width N).2 = 0 ∧ ∃ A c, r = .returned (.tuple #[.slice A N c, .int .i64 0, .bool true]) ∧ Rd w' A (gs (lam l after width N).1)) ∨
    ((lam l after width N).2 ≠ 0 ∧ r = .returned (.tuple #[.slice none 0 0, .int .i64 (lam l after width N).2, .bool false]))) ∧ Below w.heap.size w w'
set_option maxHeartbeats 4000000 in
theorem refLaminated_c (A : Option Addr) (c : Nat) (after width : Int) (l : List PT) (N : Nat) (w : World) (hr : Rd w A (ps l)) (hT : Tr l after width) (hN1 : l.length ≤ N + 1) (hN2 : N + 1 ≤ l.length) :
    Calls Try.prog 56 #[.agg #[.slice A l.length c, .int .i64 after, .int .i64 width]] w (RefLam l after width N w) := by
  obtain ⟨i0, hi, iz0, iz1, iz2⟩ := info_parts Try.infoR
  have hn8 := hT.n1
  have hn0 := hT.n0
  have ha0 := hT.a0
  have hw0 := hT.w0
  have hw1 := hT.w1
  have hp0 := hT.pt 0 (by omega)
  obtain ⟨W0, hW0⟩ : ∃ W0, w.alloc (.cells #[.slice A l.length c, .int .i64 after, .int .i64 width] 73) = W0 := ⟨_, rfl⟩
  obtain ⟨p, hp⟩ : ∃ p, w.heap.size = p := ⟨_, rfl⟩
  have hX0 : Blk W0 p 73 [.slice A l.length c, .int .i64 after, .int .i64 width] := by rw [← hW0, ← hp]; exact Blk.new w _ [_, _, _]
  have hB0 : Below p w W0 := by rw [← hW0, ← hp]; exact alloc_bel w _
  have hs0 : W0.heap.size = p + 1 := by rw [← hW0, ← hp]; simp
  have hr0 := hr.bel (by rw [hp]; exact hB0)
  have HW := hide hW0
  clear hW0 hr
  have c0 := hX0.cell 0; have c1 := hX0.cell 1; have c2 := hX0.cell 2; simp only [List.getElem?_cons_zero, List.getElem?_cons_succ] at c0 c1 c2
  have z0 := hX0.lt
  obtain ⟨b, off, rfl, hblt, _, y1, y2⟩ := hr0.p_at (show 0 < l.length by omega)
  rw [← getD_at (show 0 < l.length by omega) P0] at y1 y2
  rw [show (l.getD 0 P0).2.1 = plo l 0 from rfl] at y1
  rw [show (l.getD 0 P0).2.2 = phi l 0 from rfl] at y2
  simp only [Nat.zero_mul, Nat.add_zero] at y1 y2
  have h0l : 0 < l.length := by omega
  go_enter Try.func56, Try.ntmps56
  go_upto_region 1 with fail
  rw [HW.out]
  go_upto_region 3 with fail
  obtain ⟨V, hV⟩ : ∃ V, W0.alloc (.cells #[.int .i64 (plo l 0), .int .i64 (phi l 0)] 54) = V := ⟨_, rfl⟩
  have hbV : Below W0.heap.size W0 V := by rw [← hV]; exact alloc_bel _ _
  have hHV : Blk V (p + 1) 54 [.int .i64 (plo l 0), .int .i64 (phi l 0)] := by rw [← hV, ← hs0]; exact Blk.new W0 _ [_, _]
  have hsV : V.heap.size = p + 2 := by rw [← hV]; simp [hs0]
  rw [hV]
  clear hV
  have hXV := hX0.bel hbV
  have hrV := hr0.bel hbV
  have hBV := bel_tr hB0 (by omega) hbV
  obtain ⟨q, hq⟩ : ∃ q, q = p + 2 := ⟨_, rfl⟩
  have hqV1 : q ≤ V.heap.size := by omega
  have hqV2 : V.heap.size ≤ q := by omega
  have hqp : p + 1 < q := by omega
  have hbq : b < q := by omega
  clear c0 c1 c2 y1 y2 hr0 hX0 z0 hq hsV hs0 hbV h0l
  go_wp2
  go_loopw [5, 7] (fun v i wr => ∃ k : Nat, k ≤ N ∧ i = .int .i64 k ∧ Below q V wr ∧ wr.ownsRow q 54 2 v k (gs (lam l after width k).1) ∧ Hid ((lam l after width k).2 = 0)) (fun _ i _ => N - (intOf i).toNat)
  case atStart => exact ⟨0, Nat.zero_le _, rfl, Below.refl _ _, World.ownsRow_nil _ _ _ _, rfl⟩
  case round =>
    obtain ⟨k, hk, rfl, hbr, hown, h0⟩ := hrel
    have hqr : q ≤ wr.heap.size := by have := hbr.size; omega
    have hXr := hXV.below hbr (by omega)
    have hHr := hHV.below hbr (by omega)
    have hrr : Rd wr (some ⟨b, off, none⟩) (ps l) := hrV.keepS (S := fun k => k < q) (fun _ b' off' e => by cases e; exact hbq) (Keep.of_below hbr fun k hk => hk)
    obtain ⟨RA, rc, rfl⟩ := ownsRow_slice hown
    have c0 := hXr.cell 0; have c1 := hXr.cell 1; have c2 := hXr.cell 2; simp only [List.getElem?_cons_zero, List.getElem?_cons_succ] at c0 c1 c2
    have zx := hXr.lt
    have u1 : IntKind.i64.wrap ((k : Int) + 1) = (k : Int) + 1 := by simp (disch := omega) only [IntWalk.i64_in]
    have i2 : ((k : Int) + 1).toNat = k + 1 := by omega
    by_cases hlt : k < N
    · have hk1 : k + 1 < l.length := by omega
      have i1 : (k : Int) + 1 < (l.length : Int) := by omega
      have hlen := lam_length h0.out
      have hth := lam_thick hT (k := k) (by omega)
      have HLB := hide (leftL_bd hT hth (by omega))
      have HLE : Hid (lam l after width (k + 1) = if (leftL l after width (lam l after width k).1).2 < 0 then ([], k + 1) else ((lam l after width k).1 ++ [slabOf l after width (lam l after width k).1], 0)) := by show _ = _; rw [lam, if_pos h0.out]
      have HSO : Hid (slabOf l after width (lam l after width k).1 = (max 0 (leftL l after width (lam l after width k).1).1 / (pI l k (k + 1)).2, up (leftL l after width (lam l after width k).1).2 (pI l k (k + 1)).1)) := by show _ = _; unfold slabOf; rw [hlen]
      have HST := hide (fun h => lam_stays (l := l) (after := after) (width := width) (k := k + 1) (j := N) h (by omega))
      have HLL : Hid (leftL l after width (lam l after width k).1 = ((lefts l (k + 1) (lam l after width k).1 (1000 * (plo l (k + 1) - phi l 0), 1000 * (phi l (k + 1) - plo l 0)) k).1 - (if after ≤ (k : Int) then width * (pI l after.toNat (k + 1)).2 else 0), (lefts l (k + 1) (lam l after width k).1 (1000 * (plo l (k + 1) - phi l 0), 1000 * (phi l (k + 1) - plo l 0)) k).2)) := by show _ = _; unfold leftL; rw [hlen]
      have hpk := hT.pt (k + 1) hk1
      obtain ⟨_, y0, y1, y2⟩ := hrr.p_in hk1
      rw [← getD_at hk1 P0] at y0 y1 y2
      rw [show (l.getD (k + 1) P0).1 = pf l (k + 1) from rfl] at y0
      rw [show (l.getD (k + 1) P0).2.1 = plo l (k + 1) from rfl] at y1
      rw [show (l.getD (k + 1) P0).2.2 = phi l (k + 1) from rfl] at y2
      have HPI := hide (fun j (hj : j < k + 1) => hT.pI (j := j) (k := k + 1) hj hk1)
      have HOW : Hid (∀ j, j < k + 1 → ∀ W, Below wr.heap.size wr W → Calls Try.prog 99 #[.agg #[.slice (some ⟨b, off, none⟩) l.length c, .int .i64 after, .int .i64 width], .int .i64 (j : Nat), .int .i64 (pf l (k + 1))] W fun r w' => r = .returned (.agg #[.int .i64 (pI l j (k + 1)).1, .int .i64 (pI l j (k + 1)).2]) ∧ Below W.heap.size W w') := by
        intro j hj W hb
        have hpj := hT.pt j (by omega)
        obtain ⟨_, xj, _, _⟩ := hrr.p_in (show j < l.length by omega)
        rw [← getD_at (show j < l.length by omega) P0] at xj
        exact own_c b off l.length c j after width (pf l j) (pf l (k + 1)) W ((hb.cell (p := ⟨b, off + j * 3, none⟩) (show b < wr.heap.size by omega)).trans xj) (by have := hb.size; omega) (by omega) hpj.1 hpj.2.1 hpk.1 hpk.2.1 (hT.sq (j := j) (k := k + 1) hj hk1)
      have HLS := hide (fun j (hj : j ≤ k) => lefts_bd hT hth (1000 * (plo l (k + 1) - phi l 0), 1000 * (phi l (k + 1) - plo l 0)) (j := j) (k := k + 1) (by omega) hk1)
      have HSP := hide (fun j (hj : j < k) => lefts_step hT hth (j := j) (k := k + 1) (by omega) hk1)
      have HVB := hide (fun h => valley_bd hT hk1 h)
      have HTB := hide (fun j => hth.at j)
      have hrow := Rd.of_own hown
      clear hth hT
      obtain ⟨M, hM⟩ : ∃ M, (lam l after width k).1 = M := ⟨_, rfl⟩
      have HM := hide hM
      rw [hM] at HLB HSO HLL HLS HSP HTB hrow hlen
      obtain ⟨fk, hfk⟩ : ∃ x, pf l (k + 1) = x := ⟨_, rfl⟩
      obtain ⟨lk, hlk⟩ : ∃ x, plo l (k + 1) = x := ⟨_, rfl⟩
      obtain ⟨hk', hhk⟩ : ∃ x, phi l (k + 1) = x := ⟨_, rfl⟩
      rw [hfk] at y0 hpk HOW
      rw [hlk] at y1 hpk HLL HLS
      rw [hhk] at y2 hpk HLL HLS
      clear hM hfk hlk hhk
      generalize plo l 0 = l0 at hHr HLL HLS hp0 hHV
      generalize phi l 0 = h0' at hHr HLL HLS hp0 hHV
      have v1 : IntKind.i64.wrap (lk - h0') = lk - h0' := by simp (disch := omega) only [IntWalk.i64_in]
      have v2 : IntKind.i64.wrap (hk' - l0) = hk' - l0 := by simp (disch := omega) only [IntWalk.i64_in]
      have v3 : IntKind.i64.wrap (1000 * (lk - h0')) = 1000 * (lk - h0') := by simp (disch := omega) only [IntWalk.i64_in]
      have v4 : IntKind.i64.wrap (1000 * (hk' - l0)) = 1000 * (hk' - l0) := by simp (disch := omega) only [IntWalk.i64_in]
      go_upto_region 7 with fail
      obtain ⟨W3, hW3⟩ : ∃ W3, wr.alloc (.cells #[.int .i64 fk, .int .i64 lk, .int .i64 hk'] 99) = W3 := ⟨_, rfl⟩
      obtain ⟨xb, hxb⟩ : ∃ xb, wr.heap.size = xb := ⟨_, rfl⟩
      have hb3 : Below wr.heap.size wr W3 := by rw [← hW3]; exact alloc_bel _ _
      have hP3 : Blk W3 xb 99 [.int .i64 fk, .int .i64 lk, .int .i64 hk'] := by rw [← hW3, ← hxb]; exact Blk.new wr _ [_, _, _]
      have hX3 := hXr.bel hb3
      have hH3 := hHr.bel hb3
      have hown3 := ownsRow_bel hown hb3
      have hrow3 := hrow.bel hb3
      rw [hW3]
      try rw [hxb]
      clear hW3 hXr hHr hown hrow y0 y1 y2 c0 c1 c2 hxb
      have c0 := hX3.cell 0; have c1 := hX3.cell 1; have c2 := hX3.cell 2; simp only [List.getElem?_cons_zero, List.getElem?_cons_succ] at c0 c1 c2
      have g0 := hH3.cell 0; have g1 := hH3.cell 1; simp only [List.getElem?_cons_zero, List.getElem?_cons_succ] at g0 g1
      have x0 := hP3.cell 0; have x1 := hP3.cell 1; have x2 := hP3.cell 2; simp only [List.getElem?_cons_zero, List.getElem?_cons_succ] at x0 x1 x2
      have z3 := hX3.lt
      have z4 := hH3.lt
      have z5 := hP3.lt
      go_quiet (fail)
      obtain ⟨W4, hW4⟩ : ∃ W4, World.drewN W3 nq = W4 := ⟨_, rfl⟩
      have hb34 : Below W3.heap.size W3 W4 := by rw [← hW4]; exact below_drewN (Below.refl _ _) _
      have hX4 := hX3.bel hb34
      have hP4 := hP3.bel hb34
      have hown4 := ownsRow_bel hown3 hb34
      have hrow4 := hrow3.bel hb34
      have hb4 := tr hb3 hb34 hb3.size
      rw [hW4]
      clear hW4 hX3 hH3 hP3 hown3 hrow3 hb3 hb34 c0 c1 c2 g0 g1 x0 x1 x2 z3 z4 z5 v1 v2 v3 v4
      go_wp2
      obtain ⟨wo, rfl⟩ : ∃ wo : World, wo = wr := ⟨_, rfl⟩
      go_loopw [9, 10, 11] (fun va vb x wq => ∃ j : Nat, j ≤ k ∧ va = .int .i64 (lefts l (k + 1) M (1000 * (lk - h0'), 1000 * (hk' - l0)) j).1 ∧ vb = .int .i64 (lefts l (k + 1) M (1000 * (lk - h0'), 1000 * (hk' - l0)) j).2 ∧ x = .int .i64 j ∧ Below W4.heap.size W4 wq) (fun _ _ x _ => k - (intOf x).toNat)
      case atStart => exact ⟨0, Nat.zero_le _, rfl, rfl, rfl, Below.refl _ _⟩
      case round =>
        obtain ⟨j, hj, rfl, rfl, rfl, hbq2⟩ := hrel
        have hXq := hX4.bel hbq2
        have hPq := hP4.bel hbq2
        have hownq := ownsRow_bel hown4 hbq2
        have hrowq := hrow4.bel hbq2
        have hbwq : Below wo.heap.size wo wr := tr hb4 hbq2 hb4.size
        have c0 := hXq.cell 0; have c1 := hXq.cell 1; have c2 := hXq.cell 2; simp only [List.getElem?_cons_zero, List.getElem?_cons_succ] at c0 c1 c2
        have x0 := hPq.cell 0; have x1 := hPq.cell 1; have x2 := hPq.cell 2; simp only [List.getElem?_cons_zero, List.getElem?_cons_succ] at x0 x1 x2
        have z3 := hXq.lt
        have z5 := hPq.lt
        have hls := HLS.out j hj
        by_cases hjk : j < k
        · have hltb : j < M.length := by omega
          obtain ⟨bb, ob, rfl, hbblt, t0, t1⟩ := hrowq.g_at hltb
          rw [← getD_at hltb G0] at t0 t1
          obtain ⟨s1, s2, s3, s4⟩ := HSP.out j hjk
          have hz := HTB.out j
          obtain ⟨p1, p2, p3, p4⟩ := HPI.out j (by omega)
          have HI := hide (HOW.out j (by omega) wr hbwq)
          have HLN : Hid (lefts l (k + 1) M (1000 * (lk - h0'), 1000 * (hk' - l0)) (j + 1) = ((lefts l (k + 1) M (1000 * (lk - h0'), 1000 * (hk' - l0)) j).1 - (M.getD j G0).2 * (pI l j (k + 1)).2, (lefts l (k + 1) M (1000 * (lk - h0'), 1000 * (hk' - l0)) j).2 - (M.getD j G0).1 * (pI l j (k + 1)).1)) := rfl
          generalize (lefts l (k + 1) M (1000 * (lk - h0'), 1000 * (hk' - l0)) j).1 = u at hls HLN ⊢
          generalize (lefts l (k + 1) M (1000 * (lk - h0'), 1000 * (hk' - l0)) j).2 = v at hls HLN ⊢
          generalize (pI l j (k + 1)).1 = ilo at HI s1 s2 s3 s4 HLN p1 p2 p3
          generalize (pI l j (k + 1)).2 = ihi at HI s1 s2 s3 s4 HLN p2 p3 p4
          generalize (M.getD j G0).1 = tlo at t0 hz s1 s2 s3 s4 HLN
          generalize (M.getD j G0).2 = thi at t1 hz s1 s2 s3 s4 HLN
          have hj9 : (j : Int) ≤ 10 := by omega
          have w1 : IntKind.i64.wrap (thi * ihi) = thi * ihi := by simp (disch := omega) only [IntWalk.i64_in]
          have w2 : IntKind.i64.wrap (tlo * ilo) = tlo * ilo := by simp (disch := omega) only [IntWalk.i64_in]
          have w3 : IntKind.i64.wrap (u - thi * ihi) = u - thi * ihi := by simp (disch := omega) only [IntWalk.i64_in]
          have w4 : IntKind.i64.wrap (v - tlo * ilo) = v - tlo * ilo := by simp (disch := omega) only [IntWalk.i64_in]
          have hjI : (j : Int) < (k : Int) := by omega
          go_upto_region 12 with (first | (go_at_call 99; refine HI.out.mono ?_; rintro e_ w5 ⟨rfl, hb5⟩))
          obtain ⟨W6, hW6⟩ : ∃ W6, w5.alloc (.cells #[.int .i64 ilo, .int .i64 ihi] 54) = W6 := ⟨_, rfl⟩
          have hb56 : Below w5.heap.size w5 W6 := by rw [← hW6]; exact alloc_bel _ _
          have hJ : Blk W6 w5.heap.size 54 [.int .i64 ilo, .int .i64 ihi] := by rw [← hW6]; exact Blk.new w5 _ [_, _]
          have hb6 : Below wr.heap.size wr W6 := tr hb5 hb56 hb5.size
          rw [hW6]
          have t0' := (hb6.cell (p := ⟨bb, _, none⟩) hbblt).trans t0
          have t1' := (hb6.cell (p := ⟨bb, _, none⟩) hbblt).trans t1
          have hbbs : bb < W6.heap.size := by have := hb6.size; omega
          clear hW6 hb56 t0 t1 c0 c1 c2 x0 x1 x2
          have g0 := hJ.cell 0; have g1 := hJ.cell 1; simp only [List.getElem?_cons_zero, List.getElem?_cons_succ] at g0 g1
          have zg := hJ.lt
          go_quiet (fail)
          go_wp2
          go_roundw
          case rel => exact ⟨j + 1, by omega, by rw [HLN.out], by rw [HLN.out], by go_num, below_drewN (tr hbq2 hb6 hbq2.size) _⟩
          case measure => simp [intOf]; omega
        · obtain rfl : k = j := by omega
          obtain ⟨ws, rfl⟩ : ∃ ws : World, ws = wr := ⟨_, rfl⟩
          have hbt : Below q V ws := hbr.trans (hbwq.mono hqr)
          have hbw := hbwq
          have hownt := hownq
          obtain ⟨b2, hb2⟩ : ∃ x, (lefts l (k + 1) M (1000 * (lk - h0'), 1000 * (hk' - l0)) k).2 = x := ⟨_, rfl⟩
          obtain ⟨u, hu⟩ : ∃ x, (lefts l (k + 1) M (1000 * (lk - h0'), 1000 * (hk' - l0)) k).1 = x := ⟨_, rfl⟩
          rw [hb2] at hls HLL ⊢
          rw [hu] at hls HLL ⊢
          clear hb2 hu HLS HSP HTB hown4 hrow4 hX4 hP4 hb4 hbq2
          have HLE2 : Hid (lam l after width (k + 1) = if (leftL l after width M).2 < 0 then ([], k + 1) else ((lam l after width k).1 ++ [slabOf l after width M], 0)) := by show _ = _; rw [← HM.out]; exact HLE.out
          by_cases hv : after ≤ (k : Int)
          · have hvb := HVB.out (by omega)
            have HIV := hide (HOW.out after.toNat (by omega))
            rw [show ((after.toNat : Nat) : Int) = after by omega] at HIV
            rw [if_pos hv] at HLL
            have e0 : decide (after ≤ (k : Int)) = true := decide_eq_true hv
            generalize (pI l after.toNat (k + 1)).1 = jlo at HIV
            generalize (pI l after.toNat (k + 1)).2 = jhi at HIV hvb HLL
            have w1 : IntKind.i64.wrap (width * jhi) = width * jhi := by simp (disch := omega) only [IntWalk.i64_in]
            have w2 : IntKind.i64.wrap (u - width * jhi) = u - width * jhi := by simp (disch := omega) only [IntWalk.i64_in]
            have hfl := field_hi jlo jhi
            have HOX : Hid (∀ W, Below ws.heap.size ws W → Calls Try.prog 99 #[.agg #[.slice (some ⟨b, off, none⟩) l.length c, .int .i64 after, .int .i64 width], .int .i64 after, .int .i64 fk] W fun r w' => r = .returned (.agg #[.int .i64 jlo, .int .i64 jhi]) ∧ Below W.heap.size W w') := fun W hb => HIV.out W (tr hbw hb hbw.size)
            clear HVB hv
            go_upto_region 14 with fail
            go_cut [9] from 81 to 92 (fun t wx => t = .int .i64 (u - width * jhi) ∧ Below ws.heap.size ws wx)
            case first =>
              go_region_held3 (fun w' => (∀ b o, b < ws.heap.size → w'.cell? ⟨b, o, none⟩ = ws.cell? ⟨b, o, none⟩) ∧ Below ws.heap.size ws w')
                ((refine kp ?_; (repeat' (first | with_reducible exact Below.refl _ _ | with_reducible exact HC1.out | with_reducible refine Below.drew ?_ | with_reducible refine bel_alloc ?_ ?_ _)); all_goals (first | omega | (simp <;> omega))))
                (first | (go_at_call 99; refine (HOX.out _ (by (repeat' (first | with_reducible exact Below.refl _ _ | with_reducible exact HC1.out | with_reducible refine Below.drew ?_ | with_reducible refine bel_alloc ?_ ?_ _)); all_goals (first | omega | (simp <;> omega)))).mono ?_; rintro e_ wA ⟨rfl, hbA⟩; have HC1 : Hid (Below ws.heap.size ws wA) := (by refine hide (Below.trans ?_ (hbA.mono ?_)); (repeat' (first | with_reducible exact Below.refl _ _ | with_reducible exact HC1.out | with_reducible refine Below.drew ?_ | with_reducible refine bel_alloc ?_ ?_ _)); all_goals (first | omega | (simp <;> omega))); have sC1 := HC1.out.size))
              all_goals (
                go_wp2
                go_meet
                exact ⟨rfl, HC1.out⟩)
            obtain ⟨rfl, hbc⟩ := hcut
            obtain ⟨wt, rfl⟩ : ∃ wt : World, wt = wc := ⟨_, rfl⟩
            have hXt := hXq.bel hbc
            have hPt := hPq.bel hbc
            replace hownt := ownsRow_bel hownt hbc
            replace hbt : Below q V wt := hbt.trans (hbc.mono (by have := hbt.size; omega))
            replace hbw : Below wo.heap.size wo wt := tr hbw hbc hbw.size
            clear hXq hPq hownq hrowq hbwq hbc c0 c1 c2 x0 x1 x2 z3 z5 w1 w2 hfl HIV HOX
            obtain ⟨a2, ha2⟩ : ∃ x, u - width * jhi = x := ⟨_, rfl⟩
            rw [ha2] at HLL ⊢
            clear ha2 hvb hls
            rw [HLL.out] at HLB HLE2 HSO
            dsimp only at HLB HLE2 HSO
            have HLE := HLE2
            clear HLE2 HLL
            have c0 := hXt.cell 0; have c1 := hXt.cell 1; have c2 := hXt.cell 2; simp only [List.getElem?_cons_zero, List.getElem?_cons_succ] at c0 c1 c2
            have x0 := hPt.cell 0; have x1 := hPt.cell 1; have x2 := hPt.cell 2; simp only [List.getElem?_cons_zero, List.getElem?_cons_succ] at x0 x1 x2
            have z3 := hXt.lt
            have z5 := hPt.lt
            obtain ⟨B1, B2, B3, B4⟩ := HLB.out
            by_cases hneg : b2 < 0
            · have e1 : decide (b2 < 0) = true := decide_eq_true hneg
              have HF : Hid (lam l after width N = ([], k + 1)) := by
                have e := HLE.out
                rw [if_pos hneg] at e
                show _ = _
                rw [HST.out (by rw [e]; simp), e]
              clear hneg
              go_wp2
              refine bodyPost_ret (v := .tuple #[.slice none 0 0, .int .i64 ((k : Int) + 1), .bool false]) (by simp [results, Try.results56, go_sem]; try rfl) rfl ?_
              exact ⟨.inr ⟨by rw [HF.out]; simp, by rw [HF.out]; rfl⟩, by rw [hp]; exact hBV.trans (hbt.mono (by omega))⟩
            · have e1 : decide (b2 < 0) = false := decide_eq_false hneg
              have h0' : 0 ≤ b2 := by omega
              obtain ⟨p1, p2, p3, p4⟩ := HPI.out k (by omega)
              have HI := hide (HOW.out k (by omega) wt hbw)
              have HF : Hid (lam l after width (k + 1) = ((lam l after width k).1 ++ [(max 0 a2 / (pI l k (k + 1)).2, up b2 (pI l k (k + 1)).1)], 0)) := by
                show _ = _
                rw [HLE.out, if_neg hneg, HSO.out]
              clear hneg HLE HSO HST HOW HPI
              generalize (pI l k (k + 1)).1 = ilo at HI HF p1 p2 p3
              generalize (pI l k (k + 1)).2 = ihi at HI HF p2 p3 p4
              have emx : (if a2 < 0 then 0 else a2) = max 0 a2 := by rw [Int.max_def]; split <;> split <;> omega
              have hm0 : 0 ≤ max 0 a2 := Int.le_max_left _ _
              have hm1 : max 0 a2 ≤ 20000000 := by rw [Int.max_le]; omega
              have HFL : Hid (∀ W, Calls Try.prog 87 #[.int .i64 (if a2 < 0 then 0 else a2), .int .i64 ihi] W fun r w' => r = .returned (.int .i64 (max 0 a2 / ihi)) ∧ W = w') := by
                intro W
                rw [emx]
                exact floor_c (max 0 a2) ihi W (by omega) (by omega) (by omega) (by omega)
              have HCE := hide (fun W => ceil_c b2 ilo W (by omega) (by omega) (by omega) (by omega))
              clear emx hm0 hm1
              go_upto_region 18 with (first | (go_at_call 99; refine HI.out.mono ?_; rintro e_ w5 ⟨rfl, hb5⟩))
              obtain ⟨W4, hW4⟩ : ∃ W4, w5.alloc (.cells #[.int .i64 ilo, .int .i64 ihi] 54) = W4 := ⟨_, rfl⟩
              have hb54 : Below w5.heap.size w5 W4 := by rw [← hW4]; exact alloc_bel _ _
              have hJ : Blk W4 w5.heap.size 54 [.int .i64 ilo, .int .i64 ihi] := by rw [← hW4]; exact Blk.new w5 _ [_, _]
              have hbt4 : Below wt.heap.size wt W4 := tr hb5 hb54 hb5.size
              have hown4 := ownsRow_bel hownt hbt4
              have hbr4 : Below q V W4 := hbt.trans (hbt4.mono (by have := hbt.size; omega))
              have hz54 : wt.heap.size ≤ w5.heap.size := hb5.size
              rw [hW4]
              have q2 := hJ.cell 0
              have q3 := hJ.cell 1
              have q4 := hJ.lt
              simp only [List.getElem?_cons_zero, List.getElem?_cons_succ] at q2 q3
              have hX7 : ∀ j, Value.ownBlock (.slice RA k rc) = some j → j < wt.heap.size := fun j hj => (hownt.lt j hj).2
              clear hW4 hb54 hJ hb5 hownt
              refine wp_region_held (S := fun w' => w'.cell? ⟨w5.heap.size, 0, none⟩ = some (.int .i64 ilo) ∧ w'.cell? ⟨w5.heap.size, 1, none⟩ = some (.int .i64 ihi)) (by kernel_rfl) ?_
              have hSd : W4.drew.cell? ⟨w5.heap.size, 0, none⟩ = some (.int .i64 ilo) ∧ W4.drew.cell? ⟨w5.heap.size, 1, none⟩ = some (.int .i64 ihi) := ⟨q2, q3⟩
              change wpAnyH _ _ _ _ _ _ _ _ W4.drew
              clear q2 q3
              refine wpAnyH_take (i := 0) (v := ?_) rfl (by kernel_rfl) (by kernel_rfl) (by kernel_rfl) (fun _ _ _ h => h) (Or.inl ⟨by kernel_rfl, ?_⟩) (by assumption) ?_
              rotate_left 1
              · (intro w hSw; obtain ⟨hk1, hk2⟩ := hSw; go_simp <;> with_reducible rfl)
              simp only [Act.put, List.getElem_toArray, List.getElem_cons_zero, List.setIfInBounds_toArray, List.set_cons_zero, List.set_cons_succ]
              refine wpAnyH_take (i := 1) (v := ?_) rfl (by kernel_rfl) (by kernel_rfl) (by kernel_rfl) (fun _ _ _ h => h) (Or.inl ⟨by kernel_rfl, ?_⟩) (by assumption) ?_
              rotate_left 1
              · (intro w hSw; obtain ⟨hk1, hk2⟩ := hSw; go_simp <;> with_reducible rfl)
              simp only [Act.put, List.getElem_toArray, List.getElem_cons_zero, List.getElem_cons_succ, List.setIfInBounds_toArray, List.set_cons_zero, List.set_cons_succ]
              refine wpAnyH_take (i := 2) (v := ?_) rfl (by kernel_rfl) (by kernel_rfl) (by kernel_rfl) (fun _ _ _ h => h) (Or.inl ⟨by kernel_rfl, ?_⟩) (by assumption) ?_
              rotate_left 1
              · (intro w hSw; obtain ⟨hk1, hk2⟩ := hSw; go_simp <;> with_reducible rfl)
              simp only [Act.put, List.getElem_toArray, List.getElem_cons_zero, List.getElem_cons_succ, List.setIfInBounds_toArray, List.set_cons_zero, List.set_cons_succ]
              refine wpAnyH_take (i := 3) (v := ?_) rfl (by kernel_rfl) (by kernel_rfl) (by kernel_rfl) (fun _ _ _ h => h) (Or.inl ⟨by kernel_rfl, ?_⟩) (by assumption) ?_
              rotate_left 1
              · (intro w hSw; obtain ⟨hk1, hk2⟩ := hSw; go_simp <;> with_reducible rfl)
              simp only [Act.put, List.getElem_toArray, List.getElem_cons_zero, List.getElem_cons_succ, List.setIfInBounds_toArray, List.set_cons_zero, List.set_cons_succ]
              refine wpAnyH_take (i := 4) (v := ?_) rfl (by kernel_rfl) (by kernel_rfl) (by kernel_rfl) (fun _ _ _ h => h) (Or.inl ⟨by kernel_rfl, ?_⟩) (by assumption) ?_
              rotate_left 1
              · (intro w hSw; obtain ⟨hk1, hk2⟩ := hSw; go_simp <;> with_reducible rfl)
              simp only [Act.put, List.getElem_toArray, List.getElem_cons_zero, List.getElem_cons_succ, List.setIfInBounds_toArray, List.set_cons_zero, List.set_cons_succ]
              refine wpAnyH_take (i := 6) (v := ?_) rfl (by kernel_rfl) (by kernel_rfl) (by kernel_rfl) (fun _ _ _ h => h) (Or.inl ⟨by kernel_rfl, ?_⟩) (by assumption) ?_
              rotate_left 1
              · (intro w hSw; obtain ⟨hk1, hk2⟩ := hSw; go_simp <;> with_reducible rfl)
              simp only [Act.put, List.getElem_toArray, List.getElem_cons_zero, List.getElem_cons_succ, List.setIfInBounds_toArray, List.set_cons_zero, List.set_cons_succ]
              refine wpAnyH_take (i := 7) (v := ?_) rfl (by kernel_rfl) (by kernel_rfl) (by kernel_rfl) (fun _ _ _ h => h) (Or.inl ⟨by kernel_rfl, ?_⟩) (by assumption) ?_
              rotate_left 1
              · (intro w hSw; obtain ⟨hk1, hk2⟩ := hSw; go_simp <;> with_reducible rfl)
              simp only [Act.put, List.getElem_toArray, List.getElem_cons_zero, List.getElem_cons_succ, List.setIfInBounds_toArray, List.set_cons_zero, List.set_cons_succ]
              refine wpAnyH_take (i := 8) (v := ?_) rfl (by kernel_rfl) (by kernel_rfl) (by kernel_rfl) (fun _ _ _ h => h) (Or.inl ⟨by kernel_rfl, ?_⟩) (by assumption) ?_
              rotate_left 1
              · (intro w hSw; obtain ⟨hk1, hk2⟩ := hSw; go_simp <;> with_reducible rfl)
              simp only [Act.put, List.getElem_toArray, List.getElem_cons_zero, List.getElem_cons_succ, List.setIfInBounds_toArray, List.set_cons_zero, List.set_cons_succ]
              refine nextH (i := 5) (by kernel_rfl) rfl (fun K hK => ?_)
              go_simp
              refine (HFL.out _).mono ?_
              rintro e w6 ⟨rfl, rfl⟩
              try dsimp only
              refine hK _ _ hSd ?_
              clear hK K
              refine nextH (i := 9) (by kernel_rfl) rfl (fun K hK => ?_)
              go_simp
              refine (HCE.out _).mono ?_
              rintro e w6 ⟨rfl, rfl⟩
              try dsimp only
              refine hK _ _ hSd ?_
              clear hK K
              refine wpAnyH_take (i := 10) (v := ?_) rfl (by kernel_rfl) (by kernel_rfl) (by kernel_rfl) (fun _ _ _ h => h) (Or.inl ⟨by kernel_rfl, ?_⟩) (by assumption) ?_
              rotate_left 1
              · (intro w hSw; obtain ⟨hk1, hk2⟩ := hSw; go_simp <;> with_reducible rfl)
              simp only [Act.put, List.getElem_toArray, List.getElem_cons_zero, List.getElem_cons_succ, List.setIfInBounds_toArray, List.set_cons_zero, List.set_cons_succ]
              refine nextH (i := 11) (by kernel_rfl) rfl (fun K hK => ?_)
              go_simp
              obtain ⟨W5, hW5⟩ : ∃ W5, (W4.alloc (.cells #[.int .i64 (max 0 a2 / ihi), .int .i64 (up b2 ilo)] 54)).drew = W5 := ⟨_, rfl⟩
              have hb45 : Below W4.heap.size W4 W5 := by rw [← hW5]; exact (alloc_bel _ _).drew
              have hnew : Blk W5 W4.heap.size 54 [.int .i64 (max 0 a2 / ihi), .int .i64 (up b2 ilo)] := by rw [← hW5]; exact (Blk.new W4 _ [_, _]).drewN 1
              have hown5 := ownsRow_bel hown4 hb45
              have hbr5 : Below q V W5 := hbr4.trans (hb45.mono (by have := hbr4.size; omega))
              have hs5 : q ≤ W5.heap.size := by have := hbr5.size; omega
              have hS5 : W5.cell? ⟨w5.heap.size, 0, none⟩ = some (.int .i64 ilo) ∧ W5.cell? ⟨w5.heap.size, 1, none⟩ = some (.int .i64 ihi) := by
                obtain ⟨g2, g3⟩ := hSd
                exact ⟨(hb45.cell (p := ⟨_, 0, none⟩) q4).trans g2, (hb45.cell (p := ⟨_, 1, none⟩) q4).trans g3⟩
              rw [hW5]
              clear hW5 hSd hown4
              try dsimp only
              refine hK _ _ hS5 ?_
              clear hK K
              refine nextH (i := 12) (by kernel_rfl) rfl (fun K hK => ?_)
              refine step_append_lies _ (by rfl) _ _ _ (by rfl) q 54 i0 _ 2 16 Try.underlying84 hi iz0 iz1 iz2 rfl (by decide) _ k (gs (lam l after width k).1) (by rfl) hown5 ⟨_, 0, none⟩ 1 1 [.int .i64 (max 0 a2 / ihi), .int .i64 (up b2 ilo)] (by rfl) rfl (World.news_of_block hnew) (by simp [Value.oneCell']) (by decide) (by unfold maxLen; omega) (by omega) hs5 _ rfl ?_
              intro gv cv W6 hov hgv hatv hltv
              have hS6 : W6.cell? ⟨w5.heap.size, 0, none⟩ = some (.int .i64 ilo) ∧ W6.cell? ⟨w5.heap.size, 1, none⟩ = some (.int .i64 ihi) := by
                obtain ⟨g2, g3⟩ := hS5
                have hne : ∀ j, Value.ownBlock (.slice RA k rc) = some j → j ≠ w5.heap.size := fun j hj => by have := hX7 j hj; omega
                exact ⟨grown_cell hgv g2 fun j hj => hne j hj, grown_cell hgv g3 fun j hj => hne j hj⟩
              have hbV6 : Below q V W6 := hbr5.grown hgv hs5 (fun j hj => (hown5.lt j hj).1)
              simp only [Act.put, List.getElem_toArray, List.getElem_cons_zero, List.getElem_cons_succ, List.setIfInBounds_toArray, List.set_cons_zero, List.set_cons_succ]
              refine hK _ _ hS6 ?_
              clear hK K hS5
              refine nextH (i := 13) (by kernel_rfl) rfl (fun K hK => ?_)
              go_simp
              refine hK _ _ hS6 ?_
              clear hK K
              refine wpAnyH_done (by kernel_rfl) ?_ _
              go_wp2
              go_roundw
              case rel => exact ⟨k + 1, by omega, by go_num, hbV6, by rw [HF.out, gs_append]; exact hov, by show _ = _; rw [HF.out]⟩
              case measure => simp [intOf]; omega
          · rw [if_neg hv, Int.sub_zero] at HLL
            have e0 : decide (after ≤ (k : Int)) = false := decide_eq_false hv
            clear HVB hv
            go_upto_region 15 with fail
            obtain ⟨wt, rfl⟩ : ∃ wt : World, wt = ws := ⟨_, rfl⟩
            obtain ⟨a2, ha2⟩ : ∃ x, u = x := ⟨_, rfl⟩
            rw [ha2] at HLL ⊢
            clear ha2 hls
            rw [HLL.out] at HLB HLE2 HSO
            dsimp only at HLB HLE2 HSO
            have HLE := HLE2
            clear HLE2 HLL
            obtain ⟨B1, B2, B3, B4⟩ := HLB.out
            by_cases hneg : b2 < 0
            · have e1 : decide (b2 < 0) = true := decide_eq_true hneg
              have HF : Hid (lam l after width N = ([], k + 1)) := by
                have e := HLE.out
                rw [if_pos hneg] at e
                show _ = _
                rw [HST.out (by rw [e]; simp), e]
              clear hneg
              go_wp2
              refine bodyPost_ret (v := .tuple #[.slice none 0 0, .int .i64 ((k : Int) + 1), .bool false]) (by simp [results, Try.results56, go_sem]; try rfl) rfl ?_
              exact ⟨.inr ⟨by rw [HF.out]; simp, by rw [HF.out]; rfl⟩, by rw [hp]; exact hBV.trans (hbt.mono (by omega))⟩
            · have e1 : decide (b2 < 0) = false := decide_eq_false hneg
              have h0' : 0 ≤ b2 := by omega
              obtain ⟨p1, p2, p3, p4⟩ := HPI.out k (by omega)
              have HI := hide (HOW.out k (by omega) wt hbw)
              have HF : Hid (lam l after width (k + 1) = ((lam l after width k).1 ++ [(max 0 a2 / (pI l k (k + 1)).2, up b2 (pI l k (k + 1)).1)], 0)) := by
                show _ = _
                rw [HLE.out, if_neg hneg, HSO.out]
              clear hneg HLE HSO HST HOW HPI
              generalize (pI l k (k + 1)).1 = ilo at HI HF p1 p2 p3
              generalize (pI l k (k + 1)).2 = ihi at HI HF p2 p3 p4
              have emx : (if a2 < 0 then 0 else a2) = max 0 a2 := by rw [Int.max_def]; split <;> split <;> omega
              have hm0 : 0 ≤ max 0 a2 := Int.le_max_left _ _
              have hm1 : max 0 a2 ≤ 20000000 := by rw [Int.max_le]; omega
              have HFL : Hid (∀ W, Calls Try.prog 87 #[.int .i64 (if a2 < 0 then 0 else a2), .int .i64 ihi] W fun r w' => r = .returned (.int .i64 (max 0 a2 / ihi)) ∧ W = w') := by
                intro W
                rw [emx]
                exact floor_c (max 0 a2) ihi W (by omega) (by omega) (by omega) (by omega)
              have HCE := hide (fun W => ceil_c b2 ilo W (by omega) (by omega) (by omega) (by omega))
              clear emx hm0 hm1
              go_upto_region 18 with (first | (go_at_call 99; refine HI.out.mono ?_; rintro e_ w5 ⟨rfl, hb5⟩))
              obtain ⟨W4, hW4⟩ : ∃ W4, w5.alloc (.cells #[.int .i64 ilo, .int .i64 ihi] 54) = W4 := ⟨_, rfl⟩
              have hb54 : Below w5.heap.size w5 W4 := by rw [← hW4]; exact alloc_bel _ _
              have hJ : Blk W4 w5.heap.size 54 [.int .i64 ilo, .int .i64 ihi] := by rw [← hW4]; exact Blk.new w5 _ [_, _]
              have hbt4 : Below wt.heap.size wt W4 := tr hb5 hb54 hb5.size
              have hown4 := ownsRow_bel hownt hbt4
              have hbr4 : Below q V W4 := hbt.trans (hbt4.mono (by have := hbt.size; omega))
              have hz54 : wt.heap.size ≤ w5.heap.size := hb5.size
              rw [hW4]
              have q2 := hJ.cell 0
              have q3 := hJ.cell 1
              have q4 := hJ.lt
              simp only [List.getElem?_cons_zero, List.getElem?_cons_succ] at q2 q3
              have hX7 : ∀ j, Value.ownBlock (.slice RA k rc) = some j → j < wt.heap.size := fun j hj => (hownt.lt j hj).2
              clear hW4 hb54 hJ hb5 hownt
              refine wp_region_held (S := fun w' => w'.cell? ⟨w5.heap.size, 0, none⟩ = some (.int .i64 ilo) ∧ w'.cell? ⟨w5.heap.size, 1, none⟩ = some (.int .i64 ihi)) (by kernel_rfl) ?_
              have hSd : W4.drew.cell? ⟨w5.heap.size, 0, none⟩ = some (.int .i64 ilo) ∧ W4.drew.cell? ⟨w5.heap.size, 1, none⟩ = some (.int .i64 ihi) := ⟨q2, q3⟩
              change wpAnyH _ _ _ _ _ _ _ _ W4.drew
              clear q2 q3
              refine wpAnyH_take (i := 0) (v := ?_) rfl (by kernel_rfl) (by kernel_rfl) (by kernel_rfl) (fun _ _ _ h => h) (Or.inl ⟨by kernel_rfl, ?_⟩) (by assumption) ?_
              rotate_left 1
              · (intro w hSw; obtain ⟨hk1, hk2⟩ := hSw; go_simp <;> with_reducible rfl)
              simp only [Act.put, List.getElem_toArray, List.getElem_cons_zero, List.setIfInBounds_toArray, List.set_cons_zero, List.set_cons_succ]
              refine wpAnyH_take (i := 1) (v := ?_) rfl (by kernel_rfl) (by kernel_rfl) (by kernel_rfl) (fun _ _ _ h => h) (Or.inl ⟨by kernel_rfl, ?_⟩) (by assumption) ?_
              rotate_left 1
              · (intro w hSw; obtain ⟨hk1, hk2⟩ := hSw; go_simp <;> with_reducible rfl)
              simp only [Act.put, List.getElem_toArray, List.getElem_cons_zero, List.getElem_cons_succ, List.setIfInBounds_toArray, List.set_cons_zero, List.set_cons_succ]
              refine wpAnyH_take (i := 2) (v := ?_) rfl (by kernel_rfl) (by kernel_rfl) (by kernel_rfl) (fun _ _ _ h => h) (Or.inl ⟨by kernel_rfl, ?_⟩) (by assumption) ?_
              rotate_left 1
              · (intro w hSw; obtain ⟨hk1, hk2⟩ := hSw; go_simp <;> with_reducible rfl)
              simp only [Act.put, List.getElem_toArray, List.getElem_cons_zero, List.getElem_cons_succ, List.setIfInBounds_toArray, List.set_cons_zero, List.set_cons_succ]
              refine wpAnyH_take (i := 3) (v := ?_) rfl (by kernel_rfl) (by kernel_rfl) (by kernel_rfl) (fun _ _ _ h => h) (Or.inl ⟨by kernel_rfl, ?_⟩) (by assumption) ?_
              rotate_left 1
              · (intro w hSw; obtain ⟨hk1, hk2⟩ := hSw; go_simp <;> with_reducible rfl)
              simp only [Act.put, List.getElem_toArray, List.getElem_cons_zero, List.getElem_cons_succ, List.setIfInBounds_toArray, List.set_cons_zero, List.set_cons_succ]
              refine wpAnyH_take (i := 4) (v := ?_) rfl (by kernel_rfl) (by kernel_rfl) (by kernel_rfl) (fun _ _ _ h => h) (Or.inl ⟨by kernel_rfl, ?_⟩) (by assumption) ?_
              rotate_left 1
              · (intro w hSw; obtain ⟨hk1, hk2⟩ := hSw; go_simp <;> with_reducible rfl)
              simp only [Act.put, List.getElem_toArray, List.getElem_cons_zero, List.getElem_cons_succ, List.setIfInBounds_toArray, List.set_cons_zero, List.set_cons_succ]
              refine wpAnyH_take (i := 6) (v := ?_) rfl (by kernel_rfl) (by kernel_rfl) (by kernel_rfl) (fun _ _ _ h => h) (Or.inl ⟨by kernel_rfl, ?_⟩) (by assumption) ?_
              rotate_left 1
              · (intro w hSw; obtain ⟨hk1, hk2⟩ := hSw; go_simp <;> with_reducible rfl)
              simp only [Act.put, List.getElem_toArray, List.getElem_cons_zero, List.getElem_cons_succ, List.setIfInBounds_toArray, List.set_cons_zero, List.set_cons_succ]
              refine wpAnyH_take (i := 7) (v := ?_) rfl (by kernel_rfl) (by kernel_rfl) (by kernel_rfl) (fun _ _ _ h => h) (Or.inl ⟨by kernel_rfl, ?_⟩) (by assumption) ?_
              rotate_left 1
              · (intro w hSw; obtain ⟨hk1, hk2⟩ := hSw; go_simp <;> with_reducible rfl)
              simp only [Act.put, List.getElem_toArray, List.getElem_cons_zero, List.getElem_cons_succ, List.setIfInBounds_toArray, List.set_cons_zero, List.set_cons_succ]
              refine wpAnyH_take (i := 8) (v := ?_) rfl (by kernel_rfl) (by kernel_rfl) (by kernel_rfl) (fun _ _ _ h => h) (Or.inl ⟨by kernel_rfl, ?_⟩) (by assumption) ?_
              rotate_left 1
              · (intro w hSw; obtain ⟨hk1, hk2⟩ := hSw; go_simp <;> with_reducible rfl)
              simp only [Act.put, List.getElem_toArray, List.getElem_cons_zero, List.getElem_cons_succ, List.setIfInBounds_toArray, List.set_cons_zero, List.set_cons_succ]
              refine nextH (i := 5) (by kernel_rfl) rfl (fun K hK => ?_)
              go_simp
              refine (HFL.out _).mono ?_
              rintro e w6 ⟨rfl, rfl⟩
              try dsimp only
              refine hK _ _ hSd ?_
              clear hK K
              refine nextH (i := 9) (by kernel_rfl) rfl (fun K hK => ?_)
              go_simp
              refine (HCE.out _).mono ?_
              rintro e w6 ⟨rfl, rfl⟩
              try dsimp only
              refine hK _ _ hSd ?_
              clear hK K
              refine wpAnyH_take (i := 10) (v := ?_) rfl (by kernel_rfl) (by kernel_rfl) (by kernel_rfl) (fun _ _ _ h => h) (Or.inl ⟨by kernel_rfl, ?_⟩) (by assumption) ?_
              rotate_left 1
              · (intro w hSw; obtain ⟨hk1, hk2⟩ := hSw; go_simp <;> with_reducible rfl)
              simp only [Act.put, List.getElem_toArray, List.getElem_cons_zero, List.getElem_cons_succ, List.setIfInBounds_toArray, List.set_cons_zero, List.set_cons_succ]
              refine nextH (i := 11) (by kernel_rfl) rfl (fun K hK => ?_)
              go_simp
              obtain ⟨W5, hW5⟩ : ∃ W5, (W4.alloc (.cells #[.int .i64 (max 0 a2 / ihi), .int .i64 (up b2 ilo)] 54)).drew = W5 := ⟨_, rfl⟩
              have hb45 : Below W4.heap.size W4 W5 := by rw [← hW5]; exact (alloc_bel _ _).drew
              have hnew : Blk W5 W4.heap.size 54 [.int .i64 (max 0 a2 / ihi), .int .i64 (up b2 ilo)] := by rw [← hW5]; exact (Blk.new W4 _ [_, _]).drewN 1
              have hown5 := ownsRow_bel hown4 hb45
              have hbr5 : Below q V W5 := hbr4.trans (hb45.mono (by have := hbr4.size; omega))
              have hs5 : q ≤ W5.heap.size := by have := hbr5.size; omega
              have hS5 : W5.cell? ⟨w5.heap.size, 0, none⟩ = some (.int .i64 ilo) ∧ W5.cell? ⟨w5.heap.size, 1, none⟩ = some (.int .i64 ihi) := by
                obtain ⟨g2, g3⟩ := hSd
                exact ⟨(hb45.cell (p := ⟨_, 0, none⟩) q4).trans g2, (hb45.cell (p := ⟨_, 1, none⟩) q4).trans g3⟩
              rw [hW5]
              clear hW5 hSd hown4
              try dsimp only
              refine hK _ _ hS5 ?_
              clear hK K
              refine nextH (i := 12) (by kernel_rfl) rfl (fun K hK => ?_)
              refine step_append_lies _ (by rfl) _ _ _ (by rfl) q 54 i0 _ 2 16 Try.underlying84 hi iz0 iz1 iz2 rfl (by decide) _ k (gs (lam l after width k).1) (by rfl) hown5 ⟨_, 0, none⟩ 1 1 [.int .i64 (max 0 a2 / ihi), .int .i64 (up b2 ilo)] (by rfl) rfl (World.news_of_block hnew) (by simp [Value.oneCell']) (by decide) (by unfold maxLen; omega) (by omega) hs5 _ rfl ?_
              intro gv cv W6 hov hgv hatv hltv
              have hS6 : W6.cell? ⟨w5.heap.size, 0, none⟩ = some (.int .i64 ilo) ∧ W6.cell? ⟨w5.heap.size, 1, none⟩ = some (.int .i64 ihi) := by
                obtain ⟨g2, g3⟩ := hS5
                have hne : ∀ j, Value.ownBlock (.slice RA k rc) = some j → j ≠ w5.heap.size := fun j hj => by have := hX7 j hj; omega
                exact ⟨grown_cell hgv g2 fun j hj => hne j hj, grown_cell hgv g3 fun j hj => hne j hj⟩
              have hbV6 : Below q V W6 := hbr5.grown hgv hs5 (fun j hj => (hown5.lt j hj).1)
              simp only [Act.put, List.getElem_toArray, List.getElem_cons_zero, List.getElem_cons_succ, List.setIfInBounds_toArray, List.set_cons_zero, List.set_cons_succ]
              refine hK _ _ hS6 ?_
              clear hK K hS5
              refine nextH (i := 13) (by kernel_rfl) rfl (fun K hK => ?_)
              go_simp
              refine hK _ _ hS6 ?_
              clear hK K
              refine wpAnyH_done (by kernel_rfl) ?_ _
              go_wp2
              go_roundw
              case rel => exact ⟨k + 1, by omega, by go_num, hbV6, by rw [HF.out, gs_append]; exact hov, by show _ = _; rw [HF.out]⟩
              case measure => simp [intOf]; omega
    · obtain rfl : k = N := by omega
      have i1 : decide ((k : Int) + 1 < (l.length : Int)) = false := decide_eq_false (by omega)
      go_wp2
      refine bodyPost_ret (v := .tuple #[.slice RA k rc, .int .i64 0, .bool true]) (by simp [results, Try.results56, go_sem]; try rfl) rfl ?_
      exact ⟨.inl ⟨h0.out, RA, rc, rfl, Rd.of_own hown⟩, by rw [hp]; exact hBV.trans (hbr.mono (by omega))⟩
end Go.Proofs.Ytgnhkjfdicdcmaa
