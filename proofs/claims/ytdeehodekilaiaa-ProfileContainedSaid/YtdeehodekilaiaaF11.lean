/- Contracts: what the slabs below and the valley leave. -/
import Derived.Test.YtdeehodekilaiaaF10
import Derived.Test.YtdeehodekilaiaaQA
set_option linter.unusedSimpArgs false
set_option linter.unusedVariables false
namespace Go.Proofs.Ytdeehodekilaiaa
open Go.RowKit
set_option maxRecDepth 100000

theorem two_new (W : World) (t u : TypeId) (a d : List Value) : Blk ((W.alloc (.cells a.toArray t)).alloc (.cells d.toArray u)) W.heap.size t a ∧ Blk ((W.alloc (.cells a.toArray t)).alloc (.cells d.toArray u)) (W.heap.size + 1) u d ∧ Below W.heap.size W ((W.alloc (.cells a.toArray t)).alloc (.cells d.toArray u)) := by
  have h := Blk.new (W.alloc (.cells a.toArray t)) u d
  rw [show (W.alloc (.cells a.toArray t)).heap.size = W.heap.size + 1 by simp] at h
  exact ⟨(Blk.new W t a).bel (alloc_bel _ _), h, bel_alloc (alloc_bel W _) (by simp) _⟩
/-- What lies in memory when the slabs below are counted. -/
structure LeftAt (A BA : Option Addr) (c cb : Nat) (l : List PT) (below : List G) (after width : Int) (p : Nat) (w : World) : Prop where
  x : Blk w p 98 [.slice A l.length c, .int .i64 after, .int .i64 width]
  r : Blk w (p + 1) 51 [.int .i64 0, .int .i64 0]
  l : Rd w A (ps l)
  b : Rd w BA (gs below)
theorem LeftAt.bel {A BA : Option Addr} {c cb : Nat} {l : List PT} {below : List G} {after width : Int} {p B : Nat} {w w' : World} (h : LeftAt A BA c cb l below after width p w) (hb : Below B w w') (hB : w.heap.size ≤ B) : LeftAt A BA c cb l below after width p w' :=
  ⟨h.x.below hb (Nat.lt_of_lt_of_le h.x.lt hB), h.r.below hb (Nat.lt_of_lt_of_le h.r.lt hB), h.l.below hb hB, h.b.below hb hB⟩

theorem field_hi (a b : Int) (w : World) : (Instr.field 51 (.agg #[.int .i64 a, .int .i64 b]) 1).run Try.prog w = .ok (.int .i64 b) w := by rfl
set_option maxHeartbeats 1500000 in
theorem left_c (A BA : Option Addr) (c cb : Nat) (after width : Int) (l : List PT) (below : List G) (w : World) (hr : Rd w A (ps l)) (hrb : Rd w BA (gs below)) (hT : Tr l after width) (hth : Thick below) (hk : below.length + 1 < l.length) :
    Calls Try.prog 63 #[.agg #[.slice A l.length c, .int .i64 after, .int .i64 width], .slice BA below.length cb] w fun r w' =>
      r = .returned (.agg #[.int .i64 (leftL l after width below).1, .int .i64 (leftL l after width below).2]) ∧ Below w.heap.size w w' := by
  have hn8 := hT.n1
  obtain ⟨W0, hW0⟩ : ∃ W0, (w.alloc (.cells #[.slice A l.length c, .int .i64 after, .int .i64 width] 98)).alloc (.cells #[.int .i64 0, .int .i64 0] 51) = W0 := ⟨_, rfl⟩
  obtain ⟨p, hp⟩ : ∃ p, w.heap.size = p := ⟨_, rfl⟩
  have hX0 : Blk W0 p 98 [.slice A l.length c, .int .i64 after, .int .i64 width] := by rw [← hW0, ← hp]; exact (Blk.new w _ [_, _, _]).bel (alloc_bel _ _)
  have hR0 : Blk W0 (p + 1) 51 [.int .i64 0, .int .i64 0] := by rw [← hW0, ← hp]; have := Blk.new (w.alloc (.cells #[.slice A l.length c, .int .i64 after, .int .i64 width] 98)) 51 [.int .i64 0, .int .i64 0]; simpa using this
  have hB0 : Below p w W0 := by rw [← hW0, ← hp]; exact bel_alloc (alloc_bel w _) (by simp) _
  have hL0 : LeftAt A BA c cb l below after width p W0 := ⟨hX0, hR0, hr.bel (by rw [hp]; exact hB0), hrb.bel (by rw [hp]; exact hB0)⟩
  have HW := hide hW0
  have hz0 := hR0.lt
  have hzp : p < W0.heap.size := by omega
  clear hW0 hr hrb hR0
  have c0 := hX0.cell 0; have c1 := hX0.cell 1; have c2 := hX0.cell 2; simp only [List.getElem?_cons_zero, List.getElem?_cons_succ] at c0 c1 c2
  obtain ⟨b, off, rfl, hblt, _, x1, x2⟩ := hL0.l.p_at (k := 0) (by omega)
  obtain ⟨_, _, y1, y2⟩ := hL0.l.p_in hk
  rw [← getD_at (show 0 < l.length by omega) P0] at x1 x2
  rw [← getD_at hk P0] at y1 y2
  have b0 := hT.pt 0 (by omega)
  have bk := hT.pt _ hk
  have HL := hide hL0
  have HB0 := hide hB0
  obtain ⟨m, hm⟩ : ∃ m, below.length = m := ⟨_, rfl⟩
  have HLL : Hid (leftL l after width below = ((lefts l (m + 1) below (1000 * (plo l (m + 1) - phi l 0), 1000 * (phi l (m + 1) - plo l 0)) m).1 - (if after ≤ (m : Int) then width * (pI l after.toNat (m + 1)).2 else 0), (lefts l (m + 1) below (1000 * (plo l (m + 1) - phi l 0), 1000 * (phi l (m + 1) - plo l 0)) m).2)) := by rw [← hm]; rfl
  have HM := hide hm
  rw [hm] at y1 y2 hk bk ⊢
  rw [show (l.getD 0 P0).2.1 = plo l 0 from rfl] at x1
  rw [show (l.getD 0 P0).2.2 = phi l 0 from rfl] at x2
  rw [show (l.getD (m + 1) P0).2.1 = plo l (m + 1) from rfl] at y1
  rw [show (l.getD (m + 1) P0).2.2 = phi l (m + 1) from rfl] at y2
  clear hX0 hL0 hB0 hm
  obtain ⟨l0, hl0⟩ : ∃ x, plo l 0 = x := ⟨_, rfl⟩
  obtain ⟨h0, hh0⟩ : ∃ x, phi l 0 = x := ⟨_, rfl⟩
  obtain ⟨lk, hlk⟩ : ∃ x, plo l (m + 1) = x := ⟨_, rfl⟩
  obtain ⟨hk', hhk⟩ : ∃ x, phi l (m + 1) = x := ⟨_, rfl⟩
  rw [hl0] at x1 b0 HLL
  rw [hh0] at x2 b0 HLL
  rw [hlk] at y1 bk HLL
  rw [hhk] at y2 bk HLL
  clear hl0 hh0 hlk hhk
  simp only [Nat.zero_mul, Nat.add_zero] at x1 x2
  have i0 : (0 : Int) ≤ (m : Int) + 1 := by omega
  have i1 : (m : Int) + 1 < (l.length : Int) := by omega
  have i2 : ((m : Int) + 1).toNat = m + 1 := by omega
  have i3 : 0 < l.length := by omega
  have u1 : IntKind.i64.wrap ((m : Int) + 1) = (m : Int) + 1 := by simp (disch := omega) only [IntWalk.i64_in]
  go_enter Try.func63, Try.ntmps63
  go_upto_region 1 with fail
  rw [HW.out]
  go_upto_region 2 with fail
  go_cut [6, 7] from 14 to 28 (fun t6 t7 wx => ∃ a d : Nat, t6 = .pointer (some ⟨a, 0, none⟩) ∧ t7 = .pointer (some ⟨d, 0, none⟩) ∧ a ≠ d ∧ Blk wx a 51 [.int .i64 l0, .int .i64 h0] ∧ Blk wx d 51 [.int .i64 lk, .int .i64 hk'] ∧ Below W0.heap.size W0 wx)
  case first =>
    go_region_held3 (fun w' => (∀ b o, b < W0.heap.size → w'.cell? ⟨b, o, none⟩ = W0.cell? ⟨b, o, none⟩) ∧ Below W0.heap.size W0 w')
      ((refine kp ?_; (repeat' (first | with_reducible exact Below.refl _ _ | with_reducible refine Below.drew ?_ | with_reducible refine bel_alloc ?_ ?_ _ | with_reducible refine Below.setCell ?_ ?_ _)); all_goals (first | omega | (simp <;> omega))))
      (fail)
    all_goals
      go_wp2
      go_meet
      first
        | (refine ⟨_, _, rfl, rfl, Nat.ne_of_lt (Nat.lt_succ_self _), ?_, ?_, ?_⟩
           · exact (two_new W0 _ _ [_, _] [_, _]).1
           · exact (two_new W0 _ _ [_, _] [_, _]).2.1
           · exact (two_new W0 _ _ [_, _] [_, _]).2.2.drew)
        | (refine ⟨_, _, rfl, rfl, (Nat.ne_of_lt (Nat.lt_succ_self _)).symm, ?_, ?_, ?_⟩
           · exact (two_new W0 _ _ [_, _] [_, _]).2.1
           · exact (two_new W0 _ _ [_, _] [_, _]).1
           · exact (two_new W0 _ _ [_, _] [_, _]).2.2.drew)
  obtain ⟨a, d, rfl, rfl, had, hA1, hD1, hb01⟩ := hcut
  have hL1 := HL.out.bel hb01 (Nat.le_refl _)
  have hBc := bel_tr HB0.out (by omega) hb01
  have e0 := hA1.cell 0
  have e1 := hA1.cell 1
  have e2 := hD1.cell 0
  have e3 := hD1.cell 1
  simp only [List.getElem?_cons_zero, List.getElem?_cons_succ] at e0 e1 e2 e3
  obtain ⟨q, hq⟩ : ∃ q, wc.heap.size = q := ⟨_, rfl⟩
  have hqp : p + 1 < q := by have := hb01.size; omega
  have hbq : b < q := by have := hb01.size; omega
  clear HL hA1 hD1 c0 c1 c2 x1 x2 y1 y2 HW i3 had
  go_wp2
  obtain ⟨W2, hW2⟩ : ∃ W2, wc.alloc (.cells #[.int .i64 (1000 * (lk - h0)), .int .i64 (1000 * (hk' - l0))] 51) = W2 := ⟨_, rfl⟩
  have hQ2 : Blk W2 q 51 [.int .i64 (1000 * (lk - h0)), .int .i64 (1000 * (hk' - l0))] := by rw [← hW2, ← hq]; exact Blk.new wc _ [_, _]
  have hb12 : Below wc.heap.size wc W2 := by rw [← hW2]; exact alloc_bel _ _
  have hL2 := hL1.bel hb12 (Nat.le_refl _)
  have hB2 : Below p w W2 := bel_tr hBc (by omega) hb12
  have hs2 : W2.heap.size = q + 1 := by rw [← hW2]; simp; omega
  rw [hW2]
  rw [hq] at hb12
  have hlb : Rd W2 BA (gs below) := hL2.b
  have hlbq : gs below ≠ [] → ∀ b' off', BA = some ⟨b', off', none⟩ → b' < q := fun hx b' off' e => by
    have := hL1.b.low hx b' off' e; omega
  clear hW2 hL1 hBc e0 e1 e2 e3 hb01 hq
  have HLE := hide (fun j (hj : j ≤ m) => lefts_bd hT hth (1000 * (lk - h0), 1000 * (hk' - l0)) (j := j) (k := m + 1) (by omega) hk)
  have HST := hide (fun j (hj : j < m) => lefts_step hT hth (j := j) (k := m + 1) (by omega) hk)
  have HPT := hide (fun j (hj : j < l.length) => hT.pt j hj)
  have HSQ := hide (fun j (hj : j < m + 1) => hT.sq (j := j) (k := m + 1) hj hk)
  have HTH := hide (fun j => hth.at j)
  go_loopw [43] (fun i wr => ∃ j : Nat, j ≤ m ∧ i = .int .i64 j ∧ Below q W2 wr ∧ Blk wr q 51 [.int .i64 (lefts l (m + 1) below (1000 * (lk - h0), 1000 * (hk' - l0)) j).1, .int .i64 (lefts l (m + 1) below (1000 * (lk - h0), 1000 * (hk' - l0)) j).2]) (fun i _ => m - (intOf i).toNat)
  case atStart => exact ⟨0, Nat.zero_le _, rfl, Below.refl _ _, hQ2⟩
  case round =>
    obtain ⟨j, hj, rfl, hbr, hQr⟩ := hrel
    have hXr := hL2.x.below hbr (by omega)
    have hRr := hL2.r.below hbr (by omega)
    have hlr : Rd wr (some ⟨b, off, none⟩) (ps l) := hL2.l.keepS (S := fun k => k < q) (fun _ b' off' e => by cases e; exact hbq) (Keep.of_below hbr fun k hk => hk)
    have hbb : Rd wr BA (gs below) := hlb.keepS (S := fun k => k < q) hlbq (Keep.of_below hbr fun k hk => hk)
    have c0 := hXr.cell 0
    have c1 := hXr.cell 1
    have c2 := hXr.cell 2
    simp only [List.getElem?_cons_zero, List.getElem?_cons_succ] at c0 c1 c2
    have hzq := hQr.lt
    have hzp2 : p < wr.heap.size := by omega
    by_cases hlt : j < m
    · have hltb : j < below.length := by have := HM.out; omega
      obtain ⟨bb, ob, rfl, hbblt, z0, z1⟩ := hbb.g_at hltb
      rw [← getD_at hltb G0] at z0 z1
      have hz := HTH.out j
      have hpj := HPT.out j (by omega)
      have hpk := HPT.out (m + 1) hk
      have hsq := HSQ.out j (by omega)
      obtain ⟨s1, s2, s3, s4⟩ := HST.out j hlt
      have hle := HLE.out j (by omega)
      have HLN : Hid (lefts l (m + 1) below (1000 * (lk - h0), 1000 * (hk' - l0)) (j + 1) = ((lefts l (m + 1) below (1000 * (lk - h0), 1000 * (hk' - l0)) j).1 - (below.getD j G0).2 * (pI l j (m + 1)).2, (lefts l (m + 1) below (1000 * (lk - h0), 1000 * (hk' - l0)) j).2 - (below.getD j G0).1 * (pI l j (m + 1)).1)) := rfl
      generalize (lefts l (m + 1) below (1000 * (lk - h0), 1000 * (hk' - l0)) j).1 = u at hQr hle HLN
      generalize (lefts l (m + 1) below (1000 * (lk - h0), 1000 * (hk' - l0)) j).2 = v at hQr hle HLN
      obtain ⟨_, xj, _, _⟩ := hlr.p_in (show j < l.length by omega)
      obtain ⟨_, xk, _, _⟩ := hlr.p_in hk
      rw [← getD_at (show j < l.length by omega) P0] at xj
      rw [← getD_at hk P0] at xk
      have HI := hide (fun W (hb : Below wr.heap.size wr W) => index_c b off l.length c j (m + 1) after width (pf l j) (pf l (m + 1)) W ((hb.cell (p := ⟨b, off + j * 3, none⟩) (by omega)).trans xj) ((hb.cell (p := ⟨b, off + (m + 1) * 3, none⟩) (by omega)).trans xk) (by omega) hk (by omega) hpj.1 hpj.2.1 hpk.1 hpk.2.1 hsq)
      rw [show idx (pf l j * pf l j) (pf l (m + 1)) = pI l j (m + 1) from rfl, show (((m + 1 : Nat)) : Int) = (m : Int) + 1 by omega] at HI
      clear xj xk hpj hpk hsq hXr hRr
      generalize (pI l j (m + 1)).1 = ilo at HI s1 s2 s3 s4 HLN
      generalize (pI l j (m + 1)).2 = ihi at HI s1 s2 s3 s4 HLN
      generalize (below.getD j G0).1 = tlo at z0 hz s1 s2 s3 s4 HLN
      generalize (below.getD j G0).2 = thi at z1 hz s1 s2 s3 s4 HLN
      have hj9 : (j : Int) ≤ 10 := by omega
      go_wp2_with (first
        | (go_at_call 64; refine (HI.out _ (alloc_bel _ _)).mono ?_; rintro e w3 ⟨rfl, hb3⟩; have hQ3 := (hQr.bel (alloc_bel _ (.cells #[.int .i64 tlo, .int .i64 thi] 51))).bel hb3; have hT3 := (Blk.new wr 51 [.int .i64 tlo, .int .i64 thi]).bel hb3; have q0 := hQ3.cell 0; have q1 := hQ3.cell 1; have q2 := hT3.cell 0; have q3 := hT3.cell 1; have q4 := hQ3.frozen 0; have q5 := hQ3.frozen 1; simp only [List.getElem?_cons_zero, List.getElem?_cons_succ] at q0 q1 q2 q3; have q6 := hQ3.lt; have q7 := hT3.lt))
      have hb3q : Below q W2 w3 := hbr.trans ((tr (alloc_bel _ _) hb3 (by simp)).mono (by omega))
      refine ⟨⟨j + 1, by omega, by go_num, bel_alloc ((hb3q.setCell (Nat.le_refl _) _).setCell (Nat.le_refl _) _) (by simp [World.setCell]; omega) _, ?_⟩, by simp [intOf]; omega⟩
      rw [HLN.out]
      exact ((hQ3.set_ 0 _).set_ 1 _).bel (alloc_bel _ _)
    · obtain rfl : j = m := by omega
      have hle := HLE.out j (by omega)
      generalize (lefts l (j + 1) below (1000 * (lk - h0), 1000 * (hk' - l0)) j).1 = u at hQr hle HLL
      generalize (lefts l (j + 1) below (1000 * (lk - h0), 1000 * (hk' - l0)) j).2 = v at hQr hle HLL
      have q0 := hQr.cell 0
      have q1 := hQr.cell 1
      have q4 := hQr.frozen 0
      have q5 := hQr.frozen 1
      have r0 := hRr.cell 0
      have r1 := hRr.cell 1
      have r4 := hRr.frozen 0
      have r5 := hRr.frozen 1
      simp only [List.getElem?_cons_zero, List.getElem?_cons_succ] at q0 q1 r0 r1
      have hBr := hB2.trans (hbr.mono (by omega))
      by_cases ha : after ≤ (j : Int)
      · have ha0 := hT.a0
        have hvb := valley_bd hT hk (by omega)
        have hpj := HPT.out after.toNat (by omega)
        have hpk := HPT.out (j + 1) hk
        have hsq := HSQ.out after.toNat (by omega)
        have hX : Hid (leftL l after width below = (u - width * (pI l after.toNat (j + 1)).2, v)) := by show _ = _; rw [HLL.out, if_pos ha]
        obtain ⟨_, xj, _, _⟩ := hlr.p_in (show after.toNat < l.length by omega)
        obtain ⟨_, xk, _, _⟩ := hlr.p_in hk
        rw [← getD_at (show after.toNat < l.length by omega) P0] at xj
        rw [← getD_at hk P0] at xk
        have HI := hide (fun W (hb : Below wr.heap.size wr W) => index_c b off l.length c after.toNat (j + 1) after width (pf l after.toNat) (pf l (j + 1)) W ((hb.cell (p := ⟨b, off + after.toNat * 3, none⟩) (by omega)).trans xj) ((hb.cell (p := ⟨b, off + (j + 1) * 3, none⟩) (by omega)).trans xk) (by omega) hk (by omega) hpj.1 hpj.2.1 hpk.1 hpk.2.1 hsq)
        rw [show idx (pf l after.toNat * pf l after.toNat) (pf l (j + 1)) = pI l after.toNat (j + 1) from rfl, show (((j + 1 : Nat)) : Int) = (j : Int) + 1 by omega, show ((after.toNat : Nat) : Int) = after by omega] at HI
        have e1 : decide (after ≤ (j : Int)) = true := decide_eq_true ha
        have hwb := hT.w0
        clear xj xk hpj hpk hsq
        generalize (pI l after.toNat (j + 1)).1 = ilo at HI
        generalize (pI l after.toNat (j + 1)).2 = ihi at HI hvb hX
        have u2 : IntKind.i64.wrap (width * ihi) = width * ihi := by simp (disch := omega) only [IntWalk.i64_in]
        have u3 : IntKind.i64.wrap (u - width * ihi) = u - width * ihi := by simp (disch := omega) only [IntWalk.i64_in]
        have hfl := field_hi ilo ihi
        go_upto_region 12 with fail
        refine wp_region_M (fun w' => (∀ b o, b < wr.heap.size → w'.cell? ⟨b, o, none⟩ = wr.cell? ⟨b, o, none⟩) ∧ Below wr.heap.size wr w') 16 (by kernel_rfl) ?_
        have hSd : (∀ b o, b < wr.heap.size → wr.drew.cell? ⟨b, o, none⟩ = wr.cell? ⟨b, o, none⟩) ∧ Below wr.heap.size wr wr.drew := kp (Below.refl _ _).drew
        refine AnyM.take (i := 0) (v := ?_) rfl (by kernel_rfl) (by kernel_rfl) (by kernel_rfl) (by kernel_rfl) (fun _ _ _ h => h) (Or.inl ⟨by rfl, ?_⟩) (by assumption) ?_
        rotate_left 1
        · (intro w hSw; obtain ⟨hk1, hk2⟩ := hSw; go_simp <;> with_reducible rfl)
        simp only [Act.put, List.getElem_toArray, List.getElem_cons_zero, List.setIfInBounds_toArray, List.set_cons_zero, List.set_cons_succ]
        refine AnyM.take (i := 1) (v := ?_) rfl (by kernel_rfl) (by kernel_rfl) (by kernel_rfl) (by kernel_rfl) (fun _ _ _ h => h) (Or.inl ⟨by rfl, ?_⟩) (by assumption) ?_
        rotate_left 1
        · (intro w hSw; obtain ⟨hk1, hk2⟩ := hSw; go_simp <;> with_reducible rfl)
        simp only [Act.put, List.getElem_toArray, List.getElem_cons_zero, List.getElem_cons_succ, List.setIfInBounds_toArray, List.set_cons_zero, List.set_cons_succ]
        refine AnyM.take (i := 2) (v := ?_) rfl (by kernel_rfl) (by kernel_rfl) (by kernel_rfl) (by kernel_rfl) (fun _ _ _ h => h) (Or.inl ⟨by rfl, ?_⟩) (by assumption) ?_
        rotate_left 1
        · (intro w hSw; obtain ⟨hk1, hk2⟩ := hSw; go_simp <;> with_reducible rfl)
        simp only [Act.put, List.getElem_toArray, List.getElem_cons_zero, List.getElem_cons_succ, List.setIfInBounds_toArray, List.set_cons_zero, List.set_cons_succ]
        refine AnyM.take (i := 3) (v := ?_) rfl (by kernel_rfl) (by kernel_rfl) (by kernel_rfl) (by kernel_rfl) (fun _ _ _ h => h) (Or.inl ⟨by rfl, ?_⟩) (by assumption) ?_
        rotate_left 1
        · (intro w hSw; obtain ⟨hk1, hk2⟩ := hSw; go_simp <;> with_reducible rfl)
        simp only [Act.put, List.getElem_toArray, List.getElem_cons_zero, List.getElem_cons_succ, List.setIfInBounds_toArray, List.set_cons_zero, List.set_cons_succ]
        refine AnyM.take (i := 4) (v := ?_) rfl (by kernel_rfl) (by kernel_rfl) (by kernel_rfl) (by kernel_rfl) (fun _ _ _ h => h) (Or.inl ⟨by rfl, ?_⟩) (by assumption) ?_
        rotate_left 1
        · (intro w hSw; obtain ⟨hk1, hk2⟩ := hSw; go_simp <;> with_reducible rfl)
        simp only [Act.put, List.getElem_toArray, List.getElem_cons_zero, List.getElem_cons_succ, List.setIfInBounds_toArray, List.set_cons_zero, List.set_cons_succ]
        refine AnyM.take (i := 5) (v := ?_) rfl (by kernel_rfl) (by kernel_rfl) (by kernel_rfl) (by kernel_rfl) (fun _ _ _ h => h) (Or.inl ⟨by rfl, ?_⟩) (by assumption) ?_
        rotate_left 1
        · (intro w hSw; obtain ⟨hk1, hk2⟩ := hSw; go_simp <;> with_reducible rfl)
        simp only [Act.put, List.getElem_toArray, List.getElem_cons_zero, List.getElem_cons_succ, List.setIfInBounds_toArray, List.set_cons_zero, List.set_cons_succ]
        refine AnyM.take (i := 6) (v := ?_) rfl (by kernel_rfl) (by kernel_rfl) (by kernel_rfl) (by kernel_rfl) (fun _ _ _ h => h) (Or.inl ⟨by rfl, ?_⟩) (by assumption) ?_
        rotate_left 1
        · (intro w hSw; obtain ⟨hk1, hk2⟩ := hSw; go_simp <;> with_reducible rfl)
        simp only [Act.put, List.getElem_toArray, List.getElem_cons_zero, List.getElem_cons_succ, List.setIfInBounds_toArray, List.set_cons_zero, List.set_cons_succ]
        refine AnyM.take (i := 7) (v := ?_) rfl (by kernel_rfl) (by kernel_rfl) (by kernel_rfl) (by kernel_rfl) (fun _ _ _ h => h) (Or.inl ⟨by rfl, ?_⟩) (by assumption) ?_
        rotate_left 1
        · (intro w hSw; obtain ⟨hk1, hk2⟩ := hSw; go_simp <;> with_reducible rfl)
        simp only [Act.put, List.getElem_toArray, List.getElem_cons_zero, List.getElem_cons_succ, List.setIfInBounds_toArray, List.set_cons_zero, List.set_cons_succ]
        refine AnyM.take (i := 8) (v := ?_) rfl (by kernel_rfl) (by kernel_rfl) (by kernel_rfl) (by kernel_rfl) (fun _ _ _ h => h) (Or.inl ⟨by rfl, ?_⟩) (by assumption) ?_
        rotate_left 1
        · (intro w hSw; obtain ⟨hk1, hk2⟩ := hSw; go_simp <;> with_reducible rfl)
        simp only [Act.put, List.getElem_toArray, List.getElem_cons_zero, List.getElem_cons_succ, List.setIfInBounds_toArray, List.set_cons_zero, List.set_cons_succ]
        refine AnyM.take (i := 9) (v := ?_) rfl (by kernel_rfl) (by kernel_rfl) (by kernel_rfl) (by kernel_rfl) (fun _ _ _ h => h) (Or.inl ⟨by rfl, ?_⟩) (by assumption) ?_
        rotate_left 1
        · (intro w hSw; obtain ⟨hk1, hk2⟩ := hSw; go_simp <;> with_reducible rfl)
        simp only [Act.put, List.getElem_toArray, List.getElem_cons_zero, List.getElem_cons_succ, List.setIfInBounds_toArray, List.set_cons_zero, List.set_cons_succ]
        refine AnyM.take (i := 10) (v := ?_) rfl (by kernel_rfl) (by kernel_rfl) (by kernel_rfl) (by kernel_rfl) (fun _ _ _ h => h) (Or.inl ⟨by rfl, ?_⟩) (by assumption) ?_
        rotate_left 1
        · (intro w hSw; obtain ⟨hk1, hk2⟩ := hSw; go_simp <;> with_reducible rfl)
        simp only [Act.put, List.getElem_toArray, List.getElem_cons_zero, List.getElem_cons_succ, List.setIfInBounds_toArray, List.set_cons_zero, List.set_cons_succ]
        refine AnyM.next [11] (by kernel_rfl) (by simp) ?_
        refine NextM.cons rfl (fun K hK => ?_) NextM.nil
        go_simp
        refine (HI.out _ hSd.2).mono ?_
        rintro e w3 ⟨rfl, hb3⟩
        have hS3 := kp (bel_tr hSd.2 hSd.2.size hb3)
        try dsimp only
        refine hK _ _ (fun _ => hS3) ?_
        clear hK K hSd
        refine AnyM.take (i := 12) (v := ?_) rfl (by kernel_rfl) (by kernel_rfl) (by kernel_rfl) (by kernel_rfl) (fun _ _ _ h => h) (Or.inl ⟨by rfl, ?_⟩) (by assumption) ?_
        rotate_left 1
        · (intro w hSw; obtain ⟨hk1, hk2⟩ := hSw; go_simp <;> with_reducible rfl)
        simp only [Act.put, List.getElem_toArray, List.getElem_cons_zero, List.getElem_cons_succ, List.setIfInBounds_toArray, List.set_cons_zero, List.set_cons_succ]
        refine AnyM.take (i := 13) (v := ?_) rfl (by kernel_rfl) (by kernel_rfl) (by kernel_rfl) (by kernel_rfl) (fun _ _ _ h => h) (Or.inl ⟨by rfl, ?_⟩) (by assumption) ?_
        rotate_left 1
        · (intro w hSw; obtain ⟨hk1, hk2⟩ := hSw; go_simp <;> with_reducible rfl)
        simp only [Act.put, List.getElem_toArray, List.getElem_cons_zero, List.getElem_cons_succ, List.setIfInBounds_toArray, List.set_cons_zero, List.set_cons_succ]
        refine AnyM.take (i := 14) (v := ?_) rfl (by kernel_rfl) (by kernel_rfl) (by kernel_rfl) (by kernel_rfl) (fun _ _ _ h => h) (Or.inl ⟨by rfl, ?_⟩) (by assumption) ?_
        rotate_left 1
        · (intro w hSw; obtain ⟨hk1, hk2⟩ := hSw; go_simp <;> with_reducible rfl)
        simp only [Act.put, List.getElem_toArray, List.getElem_cons_zero, List.getElem_cons_succ, List.setIfInBounds_toArray, List.set_cons_zero, List.set_cons_succ]
        refine AnyM.take (i := 15) (v := ?_) rfl (by kernel_rfl) (by kernel_rfl) (by kernel_rfl) (by kernel_rfl) (fun _ _ _ h => h) (Or.inl ⟨by rfl, ?_⟩) (by assumption) ?_
        rotate_left 1
        · (intro w hSw; obtain ⟨hk1, hk2⟩ := hSw; go_simp <;> with_reducible rfl)
        simp only [Act.put, List.getElem_toArray, List.getElem_cons_zero, List.getElem_cons_succ, List.setIfInBounds_toArray, List.set_cons_zero, List.set_cons_succ]
        refine AnyM.next [16] (by kernel_rfl) (by simp) ?_
        refine NextM.cons rfl (fun K hK => ?_) NextM.nil
        have hQ3 := hQr.bel hS3.2
        have hR3 := hRr.bel hS3.2
        have t0 := hQ3.cell 0
        have t1 := hQ3.cell 1
        have t4 := hQ3.frozen 0
        have t5 := hQ3.frozen 1
        have v0 := hR3.cell 0
        have v1 := hR3.cell 1
        have v4 := hR3.frozen 0
        have v5 := hR3.frozen 1
        simp only [List.getElem?_cons_zero, List.getElem?_cons_succ] at t0 t1 v0 v1
        have hz3 : q < w3.heap.size := hQ3.lt
        have hB3 := bel_tr hBr (by omega) hS3.2
        clear q0 q1 q4 q5 r0 r1 r4 r5 c0 c1 c2 hS3 hb3
        go_simp
        refine hK _ _ (fun h => by simp at h) ?_
        clear hK K
        refine AnyM.done (by kernel_rfl) ?_ _
        go_wp2
        have hE0 : Blk (((w3.setCell ⟨q, 0, none⟩ (.int .i64 (u - width * ihi))).setCell ⟨p + 1, 0, none⟩ (.int .i64 (u - width * ihi))).setCell ⟨p + 1, 1, none⟩ (.int .i64 v)) (p + 1) 51 [.int .i64 (u - width * ihi), .int .i64 v] := ((hR3.far (p := ⟨q, 0, none⟩) (by show p + 1 ≠ q; omega) _).set_ 0 _).set_ 1 _
        have hBE : Below p w (((w3.setCell ⟨q, 0, none⟩ (.int .i64 (u - width * ihi))).setCell ⟨p + 1, 0, none⟩ (.int .i64 (u - width * ihi))).setCell ⟨p + 1, 1, none⟩ (.int .i64 v)) := ((hB3.setCell (by show p ≤ q; omega) _).setCell (by show p ≤ p + 1; omega) _).setCell (by show p ≤ p + 1; omega) _
        generalize ((w3.setCell ⟨q, 0, none⟩ (.int .i64 (u - width * ihi))).setCell ⟨p + 1, 0, none⟩ (.int .i64 (u - width * ihi))).setCell ⟨p + 1, 1, none⟩ (.int .i64 v) = WE at hE0 hBE ⊢
        have g0 := hE0.cell 0; have g1 := hE0.cell 1; simp only [List.getElem?_cons_zero, List.getElem?_cons_succ] at g0 g1
        exact bodyPost_ret (v := .agg #[.int .i64 (u - width * ihi), .int .i64 v]) (by simp [results, Try.results63, go_sem, g0, g1]; try rfl) rfl ⟨by rw [hX.out], hBE⟩
      · have HX : Hid (leftL l after width below = (u, v)) := by show _ = _; rw [HLL.out, if_neg ha]; simp
        have e1 : decide (after ≤ (j : Int)) = false := decide_eq_false ha
        clear ha
        go_wp2
        have hE0 : Blk ((wr.setCell ⟨p + 1, 0, none⟩ (.int .i64 u)).setCell ⟨p + 1, 1, none⟩ (.int .i64 v)) (p + 1) 51 [.int .i64 u, .int .i64 v] := (hRr.set_ 0 _).set_ 1 _
        have hBE : Below p w ((wr.setCell ⟨p + 1, 0, none⟩ (.int .i64 u)).setCell ⟨p + 1, 1, none⟩ (.int .i64 v)) := (hBr.setCell (by show p ≤ p + 1; omega) _).setCell (by show p ≤ p + 1; omega) _
        generalize (wr.setCell ⟨p + 1, 0, none⟩ (.int .i64 u)).setCell ⟨p + 1, 1, none⟩ (.int .i64 v) = WE at hE0 hBE ⊢
        have g0 := hE0.cell 0; have g1 := hE0.cell 1; simp only [List.getElem?_cons_zero, List.getElem?_cons_succ] at g0 g1
        exact bodyPost_ret (v := .agg #[.int .i64 u, .int .i64 v]) (by simp [results, Try.results63, go_sem, g0, g1]; try rfl) rfl ⟨by rw [HX.out], hBE⟩
end Go.Proofs.Ytdeehodekilaiaa
