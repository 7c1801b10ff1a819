/- Contracts: laminations of any trace; a slab of a fit. -/
import Derived.Test.YtdeehodekilaiaaF12
set_option linter.unusedSimpArgs false
set_option linter.unusedVariables false
namespace Go.Proofs.Ytdeehodekilaiaa
open Go.RowKit
set_option maxRecDepth 100000

/-- Three new blocks. -/
theorem new3 (W W2 : World) (t0 t1 t2 : TypeId) (a b c : List Value) (h : ((W.alloc (.cells a.toArray t0)).alloc (.cells b.toArray t1)).alloc (.cells c.toArray t2) = W2) :
    W2.heap.size = W.heap.size + 3 ∧ Blk W2 W.heap.size t0 a ∧ Blk W2 (W.heap.size + 1) t1 b ∧ Blk W2 (W.heap.size + 2) t2 c ∧ Below W.heap.size W W2 := by
  subst h
  refine ⟨by simp, ((Blk.new W t0 a).bel (alloc_bel _ _)).bel (alloc_bel _ _), ?_, ?_, ?_⟩
  · have := (Blk.new (W.alloc (.cells a.toArray t0)) t1 b).bel (alloc_bel _ (.cells c.toArray t2))
    rwa [show (W.alloc (.cells a.toArray t0)).heap.size = W.heap.size + 1 by simp] at this
  · have := Blk.new ((W.alloc (.cells a.toArray t0)).alloc (.cells b.toArray t1)) t2 c
    rwa [show ((W.alloc (.cells a.toArray t0)).alloc (.cells b.toArray t1)).heap.size = W.heap.size + 2 by simp] at this
  · exact bel_alloc (bel_alloc (alloc_bel W _) (by simp) _) (by simp; omega) _

theorem laminatedAll_bad (A : Option Addr) (c : Nat) (after width : Int) (l : List PT) (w : World) (hr : Rd w A (ps l)) (hl : l.length ≤ 1000) (he : (trE l after width).2 ≠ 0) :
    Calls Try.prog 19 #[.agg #[.slice A l.length c, .int .i64 after, .int .i64 width]] w fun r w' => r = .returned (.tuple #[.slice none 0 0, .int .i64 0, .int .i64 (trE l after width).2]) ∧ Below w.heap.size w w' := by
  have HC := hide (fun W h => checked_c A c after width l W h hl)
  obtain ⟨V, hV⟩ : ∃ V, w.alloc (.cells #[.slice A l.length c, .int .i64 after, .int .i64 width] 30) = V := ⟨_, rfl⟩
  have hX0 : Blk V w.heap.size 30 [.slice A l.length c, .int .i64 after, .int .i64 width] := by rw [← hV]; exact Blk.new w _ [_, _, _]
  have hBV : Below w.heap.size w V := by rw [← hV]; exact alloc_bel w _
  have hrV := hr.bel hBV
  have HW := hide hV
  clear hV hr
  have c0 := hX0.cell 0; have c1 := hX0.cell 1; have c2 := hX0.cell 2; simp only [List.getElem?_cons_zero, List.getElem?_cons_succ] at c0 c1 c2
  have HV : Hid (chkV A l.length c after width (trE l after width).2 = .tuple #[.agg #[.slice none 0 0, .int .i64 0, .int .i64 0], .int .i64 (trE l after width).2]) := by show _ = _; unfold chkV; rw [if_neg he]
  rw [HV.out] at HC
  have e1 : ((trE l after width).2 != 0) = true := by simpa using he
  clear he HV
  generalize (trE l after width).2 = E at HC e1 ⊢
  go_enter Try.func19, Try.ntmps19
  go_upto_region 1 with fail
  rw [HW.out]
  go_wp2_with (first | (go_at_call 47; refine (HC.out _ hrV).mono ?_; rintro e w2 ⟨rfl, hb2⟩))
  refine bodyPost_ret (v := .tuple #[.slice none 0 0, .int .i64 0, .int .i64 E]) (by simp [results, Try.results19, go_sem]; try rfl) rfl ⟨rfl, ?_⟩
  exact bel_alloc (bel_tr hBV hBV.size hb2) (by have := hBV.size; have := hb2.size; omega) _
theorem laminatedAll_ok (A : Option Addr) (c : Nat) (after width : Int) (l : List PT) (w : World) (hr : Rd w A (ps l)) (hT : Tr l after width) :
    Calls Try.prog 19 #[.agg #[.slice A l.length c, .int .i64 after, .int .i64 width]] w (LamPost l after width w) := by
  have hl : l.length ≤ 1000 := by have := hT.n1; omega
  have HC := hide (fun W h => checked_c A c after width l W h hl)
  obtain ⟨V, hV⟩ : ∃ V, w.alloc (.cells #[.slice A l.length c, .int .i64 after, .int .i64 width] 30) = V := ⟨_, rfl⟩
  have hX0 : Blk V w.heap.size 30 [.slice A l.length c, .int .i64 after, .int .i64 width] := by rw [← hV]; exact Blk.new w _ [_, _, _]
  have hBV : Below w.heap.size w V := by rw [← hV]; exact alloc_bel w _
  have hrV := hr.bel hBV
  have HW := hide hV
  clear hV hr
  have c0 := hX0.cell 0; have c1 := hX0.cell 1; have c2 := hX0.cell 2; simp only [List.getElem?_cons_zero, List.getElem?_cons_succ] at c0 c1 c2
  have HV : Hid (chkV A l.length c after width (trE l after width).2 = .tuple #[.agg #[.slice A l.length c, .int .i64 after, .int .i64 width], .int .i64 0]) := by show _ = _; unfold chkV; rw [hT.err]; rfl
  rw [HV.out] at HC
  clear HV
  by_cases h0 : (lam l after width (l.length - 1)).2 = 0
  · have HL : Hid (∀ W, Rd W A (ps l) → Calls Try.prog 48 #[.agg #[.slice A l.length c, .int .i64 after, .int .i64 width]] W fun r w' => (∃ A c, r = .returned (.tuple #[.slice A (l.length - 1) c, .int .i64 0, .int .i64 0]) ∧ RdT w' 51 A (gs (lam l after width (l.length - 1)).1)) ∧ Below W.heap.size W w') := fun W h => (laminated_c A c after width l W h hT).mono fun r w' hx => by
      obtain ⟨h, hb⟩ := hx
      rcases h with ⟨_, h⟩ | ⟨h, _⟩
      · exact ⟨h, hb⟩
      · exact absurd h0 h
    have H0 := hide h0
    clear h0
    go_enter Try.func19, Try.ntmps19
    go_upto_region 1 with fail
    rw [HW.out]
    go_wp2_with (first
      | (go_at_call 47; refine (HC.out _ hrV).mono ?_; rintro e w2 ⟨rfl, hb2⟩; have hr2 := hrV.bel hb2)
      | (go_at_call 48; refine (HL.out _ (hr2.alloc _)).mono ?_; rintro e w3 ⟨⟨A3, c3, rfl, hrd⟩, hb3⟩))
    refine bodyPost_ret (v := .tuple #[.slice A3 (l.length - 1) c3, .int .i64 0, .int .i64 0]) (by simp [results, Try.results19, go_sem]; try rfl) rfl ⟨.inl ⟨H0.out, A3, c3, rfl, hrd⟩, ?_⟩
    exact bel_tr (bel_alloc (bel_tr hBV hBV.size hb2) (by have := hBV.size; have := hb2.size; omega) _) (by have := hBV.size; have := hb2.size; simp; omega) hb3
  · have HL : Hid (∀ W, Rd W A (ps l) → Calls Try.prog 48 #[.agg #[.slice A l.length c, .int .i64 after, .int .i64 width]] W fun r w' => r = .returned (.tuple #[.slice none 0 0, .int .i64 (lam l after width (l.length - 1)).2, .int .i64 13]) ∧ Below W.heap.size W w') := fun W h => (laminated_c A c after width l W h hT).mono fun r w' hx => by
      obtain ⟨h, hb⟩ := hx
      rcases h with ⟨h, _⟩ | ⟨_, h⟩
      · exact absurd h h0
      · exact ⟨h, hb⟩
    have H0 := hide h0
    clear h0
    go_enter Try.func19, Try.ntmps19
    go_upto_region 1 with fail
    rw [HW.out]
    go_wp2_with (first
      | (go_at_call 47; refine (HC.out _ hrV).mono ?_; rintro e w2 ⟨rfl, hb2⟩; have hr2 := hrV.bel hb2)
      | (go_at_call 48; refine (HL.out _ (hr2.alloc _)).mono ?_; rintro e w3 ⟨rfl, hb3⟩))
    refine bodyPost_ret (v := .tuple #[.slice none 0 0, .int .i64 (lam l after width (l.length - 1)).2, .int .i64 13]) (by simp [results, Try.results19, go_sem]; try rfl) rfl ⟨.inr ⟨H0.out, rfl⟩, ?_⟩
    exact bel_tr (bel_alloc (bel_tr hBV hBV.size hb2) (by have := hBV.size; have := hb2.size; omega) _) (by have := hBV.size; have := hb2.size; simp; omega) hb3

set_option maxHeartbeats 2000000 in
theorem fittedSlab_c (A SA : Option Addr) (c cs : Nat) (after width : Int) (l : List PT) (acc : List G) (w : World) (hr : Rd w A (ps l)) (hs : Rd w SA (gs acc)) (hT : Tr l after width) (hF : FitOk l acc) (hk : acc.length + 1 < l.length) :
    Calls Try.prog 50 #[.agg #[.slice A l.length c, .int .i64 after, .int .i64 width], .agg #[.int .i64 (plo l 0), .slice SA acc.length cs], .int .i64 (acc.length : Nat)] w fun r w' =>
      r = .returned (.tuple #[.agg #[.int .i64 (pf l acc.length * pf l acc.length), .int .i64 (fitT l acc)], .int .i64 (fitE l acc)]) ∧ Below w.heap.size w w' := by
  have hn8 := hT.n1
  obtain ⟨W0, hW0⟩ : ∃ W0, ((w.alloc (.cells #[.slice A l.length c, .int .i64 after, .int .i64 width] 98)).alloc (.cells #[.int .i64 (plo l 0), .slice SA acc.length cs] 24)).alloc (.cells #[.int .i64 0, .int .i64 0] 47) = W0 := ⟨_, rfl⟩
  obtain ⟨p, hp⟩ : ∃ p, w.heap.size = p := ⟨_, rfl⟩
  obtain ⟨hs0, hX0, hS0, hR0, hB0⟩ := new3 w W0 98 24 47 [.slice A l.length c, .int .i64 after, .int .i64 width] [.int .i64 (plo l 0), .slice SA acc.length cs] [.int .i64 0, .int .i64 0] hW0
  rw [hp] at hs0 hX0 hS0 hR0 hB0
  have hr0 := hr.bel (by rw [hp]; exact hB0)
  have hsl0 := hs.bel (by rw [hp]; exact hB0)
  have HW := hide hW0
  clear hW0 hr hs
  obtain ⟨k, hk0⟩ : ∃ k, acc.length = k := ⟨_, rfl⟩
  have hk1 : k + 1 < l.length := by omega
  obtain ⟨b, off, rfl, hblt, xk, _, _⟩ := hr0.p_at (k := k) (by omega)
  obtain ⟨_, yk, y1, y2⟩ := hr0.p_in hk1
  rw [← getD_at (show k < l.length by omega) P0] at xk
  rw [← getD_at hk1 P0] at yk y1 y2
  have hpj := hT.pt k (by omega)
  have hpk := hT.pt (k + 1) hk1
  have hsq := hT.sq (j := k) (k := k + 1) (by omega) hk1
  obtain ⟨p1, p2, p3, p4⟩ := hT.pI (j := k) (k := k + 1) (by omega) hk1
  have hSL := hF.slabs hT (by omega)
  have hps := hF.pass hT (k := k + 1) hk1 (by omega)
  have hd := dly_bd hSL hpk.1 hpk.2.1 (k := k) (by rw [hps]; omega)
  have HI := hide (fun W (hb : Below W0.heap.size W0 W) => index_c b off l.length c k (k + 1) after width (pf l k) (pf l (k + 1)) W ((hb.cell (p := ⟨b, off + k * 3, none⟩) hblt).trans xk) ((hb.cell (p := ⟨b, off + (k + 1) * 3, none⟩) hblt).trans yk) (by omega) hk1 (by omega) hpj.1 hpj.2.1 hpk.1 hpk.2.1 hsq)
  rw [show idx (pf l k * pf l k) (pf l (k + 1)) = pI l k (k + 1) from rfl, show (((k + 1 : Nat)) : Int) = (k : Int) + 1 by omega] at HI
  have HQ := hide (fun W (hb : Below W0.heap.size W0 W) => square_c b off l.length c k after width (pf l k) W ((hb.cell (p := ⟨b, off + k * 3, none⟩) hblt).trans xk) (by omega) (by omega) hpj.1 hpj.2.1)
  have HD := hide (fun W (hb : Below W0.heap.size W0 W) => delayOf_c (plo l 0) (pf l (k + 1)) SA cs acc W (hsl0.bel hb) hSL hpk.1 hpk.2.1)
  rw [hps, hk0] at HD
  have HT0 := hide (fitT_nonneg hT hk)
  have HT : Hid (fitT l acc = up (max 0 (1000 * (plo l (k + 1) - 1) + 1 - (dly (plo l 0) acc (pf l (k + 1)) k).2)) (pI l k (k + 1)).2) := by show _ = _; unfold fitT; rw [hk0]
  have HE : Hid (fitE l acc = firstE [errIf (decide (500 < fitT l acc)) 22, errIf (decide (phi l (k + 1) < ((dly (plo l 0) acc (pf l (k + 1)) k).1 + fitT l acc * (pI l k (k + 1)).1) / 1000)) 12]) := by show _ = _; unfold fitE; rw [hk0]
  clear hps hSL hsq hpj xk
  rw [hk0] at HW hS0 ⊢
  generalize fitT l acc = T at HT0 HT HE ⊢
  generalize fitE l acc = E at HE ⊢
  rw [show (l.getD (k + 1) P0).1 = pf l (k + 1) from rfl] at yk
  rw [show (l.getD (k + 1) P0).2.1 = plo l (k + 1) from rfl] at y1
  rw [show (l.getD (k + 1) P0).2.2 = phi l (k + 1) from rfl] at y2
  generalize (dly (plo l 0) acc (pf l (k + 1)) k).1 = dlo at HD hd HE
  generalize (dly (plo l 0) acc (pf l (k + 1)) k).2 = dhi at HD hd HT
  generalize (pI l k (k + 1)).1 = ilo at HI p1 p2 p3 HE
  generalize (pI l k (k + 1)).2 = ihi at HI p2 p3 p4 HT
  generalize pf l k * pf l k = sqk at HQ ⊢
  generalize pf l (k + 1) = fk at yk HD hpk
  generalize plo l (k + 1) = lk at y1 hpk HT
  generalize phi l (k + 1) = hik at y2 hpk HE
  obtain ⟨mx, hmx⟩ : ∃ mx, max 0 (1000 * (lk - 1) + 1 - dhi) = mx := ⟨_, rfl⟩
  have hm0 : 0 ≤ mx := by rw [← hmx]; exact Int.le_max_left _ _
  have hm1 : mx ≤ 20000000 := by rw [← hmx, Int.max_le]; omega
  have hTT := HT.out
  rw [hmx] at hTT
  have hT0 := HT0.out
  have hT1 : T ≤ 20000 := by
    rw [hTT]
    refine (up_le (by omega)).2 ?_
    have := Int.mul_le_mul_of_nonneg_left (show 1000 ≤ ihi by omega) (show (0 : Int) ≤ 20000 by omega)
    omega
  have hTi := mul_bd hT0 hT1 (b := ilo) (B := 3000000) (by omega) (by omega)
  have HU := hide (fun W => dividedUp_c mx ihi W hm0 (by omega) (by omega) (by omega))
  rw [← hTT] at HU
  have emx : (if 0 < 1000 * (lk - 1) + 1 - dhi then 1000 * (lk - 1) + 1 - dhi else 0) = mx := by rw [← hmx, Int.max_def]; split <;> split <;> omega
  have HEM := hide emx
  clear emx hTT hmx HT HT0
  have i0 : (0 : Int) ≤ (k : Int) + 1 := by omega
  have i1 : (k : Int) + 1 < (l.length : Int) := by omega
  have i2 : ((k : Int) + 1).toNat = k + 1 := by omega
  have c0 := hX0.cell 0; have c1 := hX0.cell 1; have c2 := hX0.cell 2; simp only [List.getElem?_cons_zero, List.getElem?_cons_succ] at c0 c1 c2
  have g0 := hS0.cell 0
  have g1 := hS0.cell 1
  simp only [List.getElem?_cons_zero, List.getElem?_cons_succ] at g0 g1
  have hz := hR0.lt
  go_enter Try.func50, Try.ntmps50
  go_upto_region 1 with fail
  rw [HW.out]
  go_upto_region 2 with fail
  obtain ⟨W1, hW1⟩ : ∃ W1, W0.alloc (.cells #[.int .i64 fk, .int .i64 lk, .int .i64 hik] 55) = W1 := ⟨_, rfl⟩
  have hb01 : Below W0.heap.size W0 W1 := by rw [← hW1]; exact alloc_bel _ _
  have hP1 : Blk W1 (p + 3) 55 [.int .i64 fk, .int .i64 lk, .int .i64 hik] := by rw [← hW1, ← hs0]; exact Blk.new W0 _ [_, _, _]
  have hX1 := hX0.bel hb01
  have hS1 := hS0.bel hb01
  have hR1 := hR0.bel hb01
  rw [hW1]
  have d0 := hX1.cell 0
  have d1 := hX1.cell 1
  have d2 := hX1.cell 2
  have e0 := hS1.cell 0
  have e1 := hS1.cell 1
  have f0 := hP1.cell 0
  have f1 := hP1.cell 1
  have f2 := hP1.cell 2
  simp only [List.getElem?_cons_zero, List.getElem?_cons_succ] at d0 d1 d2 e0 e1 f0 f1 f2
  clear hW1 c0 c1 c2 g0 g1 yk y1 y2 HW
  go_upto_region 5 with (first
    | (go_at_call 44; refine (HD.out _ hb01).mono ?_; rintro e w2 ⟨rfl, hb2⟩; have hb02 := tr hb01 hb2 hb01.size; have hX2 := hX1.bel hb2; have h0 := hX2.cell 0; have h1 := hX2.cell 1; have h2 := hX2.cell 2; have hP2 := hP1.bel hb2; have j0 := hP2.cell 0; have j1 := hP2.cell 1; have j2 := hP2.cell 2; simp only [List.getElem?_cons_zero, List.getElem?_cons_succ] at h0 h1 h2 j0 j1 j2; have z0 := hX2.lt; have z1 := hP2.lt)
    | (go_at_call 64; refine (HI.out _ (bel_alloc hb02 hb02.size _)).mono ?_; rintro e w3 ⟨rfl, hb3⟩; have hD3 := (Blk.new w2 51 [.int .i64 dlo, .int .i64 dhi]).bel hb3; have hP3 := (hP2.bel (alloc_bel w2 (.cells #[.int .i64 dlo, .int .i64 dhi] 51))).bel hb3; have k0 := hD3.cell 0; have k1 := hD3.cell 1; have l0 := hP3.cell 0; have l1 := hP3.cell 1; have l2 := hP3.cell 2; simp only [List.getElem?_cons_zero, List.getElem?_cons_succ] at k0 k1 l0 l1 l2; have kz := hD3.lt; have lz := hP3.lt)
    | fail)
  have emx := HEM.out
  generalize 1000 * (lk - 1) + 1 - dhi = ms at emx ⊢
  obtain ⟨W4, hW4⟩ : ∃ W4, w3.alloc (.cells #[.int .i64 ilo, .int .i64 ihi] 51) = W4 := ⟨_, rfl⟩
  have hb34 : Below w3.heap.size w3 W4 := by rw [← hW4]; exact alloc_bel _ _
  have hJ : Blk W4 w3.heap.size 51 [.int .i64 ilo, .int .i64 ihi] := by rw [← hW4]; exact Blk.new w3 _ [_, _]
  have hD4 := hD3.bel hb34
  have hP4 := hP3.bel hb34
  have hb24 : Below w2.heap.size w2 W4 := tr (alloc_bel w2 (.cells #[.int .i64 dlo, .int .i64 dhi] 51)) (tr hb3 hb34 hb3.size) (by simp)
  have hb04 := tr hb02 hb24 hb02.size
  have hX4 := hX0.bel hb04
  have hR4 := hR0.bel hb04
  have c0 := hX4.cell 0
  have c1 := hX4.cell 1
  have c2 := hX4.cell 2
  have m0 := hD4.cell 0
  have m1 := hD4.cell 1
  have m2 := hJ.cell 0
  have m3 := hJ.cell 1
  have m4 := hP4.cell 2
  simp only [List.getElem?_cons_zero, List.getElem?_cons_succ] at c0 c1 c2 m0 m1 m2 m3 m4
  have n0 := hD4.lt
  have n1 := hJ.lt
  have n2 := hP4.lt
  have n3 := hX4.lt
  rw [hW4]
  clear hW4 hb34 hD3 hP3 hP2 hX2 hX1 hP1 k0 k1 l0 l1 l2 kz lz j0 j1 j2 h0 h1 h2 d0 d1 d2 e0 e1 f0 f1 f2 hJ hD4 hP4 hb3 hb24 z0 z1 hS1 hR1
  have hdd : 0 ≤ dlo + T * ilo := by omega
  have u1 : IntKind.i64.wrap (T * ilo) = T * ilo := by simp (disch := omega) only [IntWalk.i64_in]
  have u2 : IntKind.i64.wrap (dlo + T * ilo) = dlo + T * ilo := by simp (disch := omega) only [IntWalk.i64_in]
  have u3 : IntKind.i64.wrap ((dlo + T * ilo).tdiv 1000) = (dlo + T * ilo) / 1000 := by rw [Int.tdiv_eq_ediv_of_nonneg hdd]; simp (disch := omega) only [IntWalk.i64_in]
  go_upto_region 6 with ((go_at_call 45; (with_reducible refine (HU.out _).mono ?_); rintro e w_ ⟨rfl, rfl⟩))
  clear HU HD HI emx HEM hm0 hm1
  go_region_held3 (fun w' => (∀ b o, b < W4.heap.size → w'.cell? ⟨b, o, none⟩ = W4.cell? ⟨b, o, none⟩) ∧ Below W4.heap.size W4 w')
    ((refine kp ?_; (repeat' (first | with_reducible exact Below.refl _ _ | with_reducible refine Below.drew ?_ | with_reducible refine bel_alloc ?_ ?_ _)); all_goals (first | omega | (simp <;> omega))))
    (first
      | (go_at_call 35; refine (errorIf_c _ _ _).mono ?_; rintro e_ w_ ⟨rfl, rfl⟩)
      | (go_at_call 33; refine (firstError_2D _ _ _).mono ?_; rintro e_ w_ ⟨rfl, rfl⟩)
      | (go_at_call 33; refine (firstError_2 _ _ _).mono ?_; rintro e_ w_ ⟨rfl, rfl⟩))
  clear u1 u2 u3
  rw [← HE.out]
  obtain ⟨o, ho⟩ : ∃ o, (Obj.cells #[.int .i64 (errIf (decide (500 < T)) 22), .int .i64 (errIf (decide (hik < (dlo + T * ilo) / 1000)) 12)] 31) = o := ⟨_, rfl⟩
  rw [ho]
  clear ho
  have hb45 : Below W4.heap.size W4 (W4.alloc o).drew := (alloc_bel _ _).drew
  generalize (W4.alloc o).drew = W5 at hb45 ⊢
  have hX5 := hX4.bel hb45
  have hR5 := hR4.bel hb45
  have hb05 := tr hb04 hb45 hb04.size
  have d0 := hX5.cell 0
  have d1 := hX5.cell 1
  have d2 := hX5.cell 2
  simp only [List.getElem?_cons_zero, List.getElem?_cons_succ] at d0 d1 d2
  clear c0 c1 c2 m0 m1 m2 m3 m4
  go_wp2_with ((go_at_call 51; refine (HQ.out _ hb05).mono ?_; rintro e w6 ⟨rfl, hb6⟩; have hR6 := hR5.bel hb6; have k0 := hR6.cell 0; have k1 := hR6.cell 1; have k2 := hR6.frozen 0; have k3 := hR6.frozen 1; simp only [List.getElem?_cons_zero, List.getElem?_cons_succ] at k0 k1))
  have hE0 : Blk ((w6.setCell ⟨p + 1 + 1, 0, none⟩ (.int .i64 sqk)).setCell ⟨p + 1 + 1, 1, none⟩ (.int .i64 T)) (p + 2) 47 [.int .i64 sqk, .int .i64 T] := (hR6.set_ 0 _).set_ 1 _
  have hBE : Below p w ((w6.setCell ⟨p + 1 + 1, 0, none⟩ (.int .i64 sqk)).setCell ⟨p + 1 + 1, 1, none⟩ (.int .i64 T)) := ((bel_tr hB0 (by omega) (tr hb05 hb6 hb05.size)).setCell (by show p ≤ p + 1 + 1; omega) _).setCell (by show p ≤ p + 1 + 1; omega) _
  generalize (w6.setCell ⟨p + 1 + 1, 0, none⟩ (.int .i64 sqk)).setCell ⟨p + 1 + 1, 1, none⟩ (.int .i64 T) = WE at hE0 hBE ⊢
  have g0 := hE0.cell 0; have g1 := hE0.cell 1; simp only [List.getElem?_cons_zero, List.getElem?_cons_succ] at g0 g1
  exact bodyPost_ret (v := .tuple #[.agg #[.int .i64 sqk, .int .i64 T], .int .i64 E]) (by simp [results, Try.results50, go_sem, g0, g1]; try rfl) rfl ⟨rfl, by rw [hp]; exact hBE⟩
end Go.Proofs.Ytdeehodekilaiaa
