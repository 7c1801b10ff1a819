/- Contracts: laminations with the room of their slices. -/
import Derived.Test.YtdeehodekilaiaaF13
import Derived.Test.YtdeehodekilaiaaJ1
set_option linter.unusedSimpArgs false
set_option linter.unusedVariables false
namespace Go.Proofs.Ytdeehodekilaiaa
open Go.RowKit
set_option maxRecDepth 100000

/-- The answer of laminated, with room for its slabs. -/
def LamCap (l : List PT) (after width : Int) (w : World) (r : Ending) (w' : World) : Prop :=
  (((lam l after width (l.length - 1)).2 = 0 ∧ ∃ A c, l.length - 1 ≤ c ∧ r = .returned (.tuple #[.slice A (l.length - 1) c, .int .i64 0, .int .i64 0]) ∧ RdT w' 51 A (gs (lam l after width (l.length - 1)).1)) ∨
    ((lam l after width (l.length - 1)).2 ≠ 0 ∧ r = .returned (.tuple #[.slice none 0 0, .int .i64 (lam l after width (l.length - 1)).2, .int .i64 13]))) ∧ Below w.heap.size w w'

set_option maxHeartbeats 2000000 in
theorem laminatedCap_c (A : Option Addr) (c : Nat) (after width : Int) (l : List PT) (w : World) (hr : Rd w A (ps l)) (hT : Tr l after width) :
    Calls Try.prog 48 #[.agg #[.slice A l.length c, .int .i64 after, .int .i64 width]] w (LamCap l after width w) := by
  obtain ⟨i0, hi, iz0, iz1, iz2⟩ := info_parts Try.infoR
  have hn8 := hT.n1
  have hn0 := hT.n0
  obtain ⟨V, hV⟩ : ∃ V, w.alloc (.cells #[.slice A l.length c, .int .i64 after, .int .i64 width] 98) = V := ⟨_, rfl⟩
  have hX0 : Blk V w.heap.size 98 [.slice A l.length c, .int .i64 after, .int .i64 width] := by rw [← hV]; exact Blk.new w _ [_, _, _]
  have hBV : Below w.heap.size w V := by rw [← hV]; exact alloc_bel w _
  have hrV := hr.bel hBV
  have HW := hide hV
  clear hV hr
  have c0 := hX0.cell 0; have c1 := hX0.cell 1; have c2 := hX0.cell 2; simp only [List.getElem?_cons_zero, List.getElem?_cons_succ] at c0 c1 c2
  have hz := hX0.lt
  obtain ⟨N, hN⟩ : ∃ N, l.length - 1 = N := ⟨_, rfl⟩
  have hlN : l.length = N + 1 := by omega
  have HP : Hid (LamCap l after width w = fun r w' => (((lam l after width N).2 = 0 ∧ ∃ A c, N ≤ c ∧ r = .returned (.tuple #[.slice A N c, .int .i64 0, .int .i64 0]) ∧ RdT w' 51 A (gs (lam l after width N).1)) ∨
    ((lam l after width N).2 ≠ 0 ∧ r = .returned (.tuple #[.slice none 0 0, .int .i64 (lam l after width N).2, .int .i64 13]))) ∧ Below w.heap.size w w') := by show _ = _; funext r w'; unfold LamCap; rw [hN]
  have HSL := hide (fun W => slabs_c A l.length c after width W (by omega) hn0)
  rw [hN] at HSL
  have hN1 : l.length ≤ N + 1 := by omega
  have hN2 : N + 1 ≤ l.length := by omega
  clear hlN
  go_enter Try.func48, Try.ntmps48
  go_upto_region 1 with fail
  rw [HW.out]
  clear hN
  go_wp2_with (first | (go_at_call 49; refine (HSL.out _).mono ?_; rintro e w1 ⟨rfl, hb1⟩))
  go_loopw [5, 11] (fun v i wr => ∃ k : Nat, k ≤ N ∧ i = .int .i64 k ∧ Below V.heap.size V wr ∧ wr.ownsRow V.heap.size 51 2 v k (gs (lam l after width k).1) ∧ Hid ((lam l after width k).2 = 0)) (fun _ i _ => N - (intOf i).toNat)
  case atStart => exact ⟨0, Nat.zero_le _, rfl, hb1, World.ownsRow_nil _ _ _ _, rfl⟩
  case round =>
    obtain ⟨k, hk, rfl, hbr, hown, h0⟩ := hrel
    have hXr := hX0.bel hbr
    have hrr := hrV.bel hbr
    have d0 := hXr.cell 0
    have d1 := hXr.cell 1
    have d2 := hXr.cell 2
    simp only [List.getElem?_cons_zero, List.getElem?_cons_succ] at d0 d1 d2
    have hBr := tr hBV hbr hBV.size
    by_cases hlt : k < N
    · obtain ⟨BA, cb, rfl⟩ := ownsRow_slice hown
      have hrow := Rd.of_own hown
      have hlen := lam_length h0.out
      have hth := lam_thick hT (k := k) (by omega)
      have HL := hide (fun W h1 h2 => left_c A BA c cb after width l (lam l after width k).1 W h1 h2 hT hth (by omega))
      rw [hlen] at HL
      obtain ⟨B1, B2, B3, B4⟩ := leftL_bd hT hth (by omega)
      have HLE : Hid (lam l after width (k + 1) = if (leftL l after width (lam l after width k).1).2 < 0 then ([], k + 1) else ((lam l after width k).1 ++ [slabOf l after width (lam l after width k).1], 0)) := by show _ = _; rw [lam, if_pos h0.out]
      have HSO : Hid (slabOf l after width (lam l after width k).1 = (max 0 (leftL l after width (lam l after width k).1).1 / (pI l k (k + 1)).2, up (leftL l after width (lam l after width k).1).2 (pI l k (k + 1)).1)) := by show _ = _; unfold slabOf; rw [hlen]
      have HST := hide (fun h => lam_stays (l := l) (after := after) (width := width) (k := k + 1) (j := N) h (by omega))
      clear hlen hth
      generalize (leftL l after width (lam l after width k).1).1 = lo at HL B1 B2 HSO HLE
      generalize (leftL l after width (lam l after width k).1).2 = hi' at HL B3 B4 HSO HLE
      by_cases hneg : hi' < 0
      · have e1 : decide (hi' < 0) = true := decide_eq_true hneg
        have HF : Hid (lam l after width N = ([], k + 1)) := by
          have e := HLE.out
          rw [if_pos hneg] at e
          show _ = _
          rw [HST.out (by rw [e]; simp), e]
        clear hneg
        go_wp2_with (first | (go_at_call 63; refine (HL.out _ hrr hrow).mono ?_; rintro e w2 ⟨rfl, hb2⟩))
        refine bodyPost_ret (v := .tuple #[.slice none 0 0, .int .i64 ((k : Int) + 1), .int .i64 13]) (by simp [results, Try.results48, go_sem]; try rfl) rfl ?_
        rw [HP.out]
        exact ⟨.inr ⟨by rw [HF.out]; simp, by rw [HF.out]; rfl⟩, bel_alloc (bel_tr hBr hBr.size hb2) (by have := hBr.size; have := hb2.size; omega) _⟩
      · have e1 : decide (hi' < 0) = false := decide_eq_false hneg
        have h0' : 0 ≤ hi' := by omega
        have HF : Hid (lam l after width (k + 1) = ((lam l after width k).1 ++ [(max 0 lo / (pI l k (k + 1)).2, up hi' (pI l k (k + 1)).1)], 0)) := by
          show _ = _
          rw [HLE.out, if_neg hneg, HSO.out]
        obtain ⟨p1, p2, p3, p4⟩ := hT.pI (j := k) (k := k + 1) (by omega) (by omega)
        have hpj := hT.pt k (by omega)
        have hpk := hT.pt (k + 1) (by omega)
        have hsq := hT.sq (j := k) (k := k + 1) (by omega) (by omega)
        obtain ⟨b, off, rfl, hblt, xj, _, _⟩ := hrr.p_at (k := k) (by omega)
        obtain ⟨_, xk, _, _⟩ := hrr.p_in (show k + 1 < l.length by omega)
        rw [← getD_at (show k < l.length by omega) P0] at xj
        rw [← getD_at (show k + 1 < l.length by omega) P0] at xk
        have HI := hide (fun W (hb : Below wr.heap.size wr W) => index_c b off l.length c k (k + 1) after width (pf l k) (pf l (k + 1)) W ((hb.cell (p := ⟨b, off + k * 3, none⟩) (by omega)).trans xj) ((hb.cell (p := ⟨b, off + (k + 1) * 3, none⟩) (by omega)).trans xk) (by omega) (by omega) (by omega) hpj.1 hpj.2.1 hpk.1 hpk.2.1 hsq)
        rw [show idx (pf l k * pf l k) (pf l (k + 1)) = pI l k (k + 1) from rfl, show (((k + 1 : Nat)) : Int) = (k : Int) + 1 by omega] at HI
        clear xj xk hpj hpk hsq hneg HSO HLE HST
        generalize (pI l k (k + 1)).1 = ilo at HI HF p1 p2 p3
        generalize (pI l k (k + 1)).2 = ihi at HI HF p2 p3 p4
        have HU := hide (fun W => dividedUp_c hi' ilo W h0' (by omega) (by omega) (by omega))
        go_upto_region 9 with (first
          | (go_at_call 63; refine (HL.out _ hrr hrow).mono ?_; rintro e w2 ⟨rfl, hb2⟩; have hX2 := hXr.bel hb2; have f0 := hX2.cell 0; have f1 := hX2.cell 1; have f2 := hX2.cell 2; simp only [List.getElem?_cons_zero, List.getElem?_cons_succ] at f0 f1 f2; have fz := hX2.lt)
          | (go_at_call 64; refine (HI.out _ (hb2.trans ((alloc_bel w2 _).mono hb2.size))).mono ?_; rintro e w3 ⟨rfl, hb3⟩))
        obtain ⟨W4, hW4⟩ : ∃ W4, w3.alloc (.cells #[.int .i64 ilo, .int .i64 ihi] 51) = W4 := ⟨_, rfl⟩
        have hb34 : Below w3.heap.size w3 W4 := by rw [← hW4]; exact alloc_bel _ _
        have hQ := ((Blk.new w2 51 [.int .i64 lo, .int .i64 hi']).bel hb3).bel hb34
        have hJ : Blk W4 w3.heap.size 51 [.int .i64 ilo, .int .i64 ihi] := by rw [← hW4]; exact Blk.new w3 _ [_, _]
        have hb24 : Below w2.heap.size w2 W4 := tr (alloc_bel w2 (.cells #[.int .i64 lo, .int .i64 hi'] 51)) (tr hb3 hb34 hb3.size) (by simp)
        have hbr4 : Below wr.heap.size wr W4 := tr hb2 hb24 hb2.size
        have hown4 := ownsRow_bel hown hbr4
        have hq10 : w2.heap.size < w3.heap.size := by have := hb3.size; simp at this; omega
        rw [hW4]
        have q0 := hQ.cell 0
        have q1 := hQ.cell 1
        have q2 := hJ.cell 0
        have q3 := hJ.cell 1
        simp only [List.getElem?_cons_zero, List.getElem?_cons_succ] at q0 q1 q2 q3
        clear hW4 hb34 hQ hJ hb3 hb24 d0 d1 d2 f0 f1 f2
        have hm0 : 0 ≤ max 0 lo := Int.le_max_left _ _
        have hm1 : max 0 lo ≤ 20000000 := by rw [Int.max_le]; omega
        have hd0 : 0 ≤ max 0 lo / ihi := Int.ediv_nonneg hm0 (by omega)
        have hd1 : max 0 lo / ihi ≤ max 0 lo := Int.ediv_le_self _ hm0
        have em : ¬ ihi = 0 := by omega
        have emx : (if 0 < lo then lo else 0) = max 0 lo := by rw [Int.max_def]; split <;> split <;> omega
        have um : IntKind.i64.wrap ((if 0 < lo then lo else 0).tdiv ihi) = max 0 lo / ihi := by rw [emx, Int.tdiv_eq_ediv_of_nonneg hm0]; simp (disch := omega) only [IntWalk.i64_in]
        have HMX := hide emx
        clear emx
        have hX7 : ∀ j, Value.ownBlock (.slice BA k cb) = some j → j < wr.heap.size := fun j hj => (hown.lt j hj).2
        have hq7 : wr.heap.size ≤ w2.heap.size := hb2.size
        have hq8 : w2.heap.size < W4.heap.size := World.block_lt_of_cell? _ _ q0
        have hq9 : w3.heap.size < W4.heap.size := World.block_lt_of_cell? _ _ q2
        refine wp_region_held (S := fun w' => w'.cell? ⟨w2.heap.size, 0, none⟩ = some (.int .i64 lo) ∧ w'.cell? ⟨w2.heap.size, 1, none⟩ = some (.int .i64 hi') ∧ w'.cell? ⟨w3.heap.size, 0, none⟩ = some (.int .i64 ilo) ∧ w'.cell? ⟨w3.heap.size, 1, none⟩ = some (.int .i64 ihi)) (by kernel_rfl) ?_
        have hSd : W4.drew.cell? ⟨w2.heap.size, 0, none⟩ = some (.int .i64 lo) ∧ W4.drew.cell? ⟨w2.heap.size, 1, none⟩ = some (.int .i64 hi') ∧ W4.drew.cell? ⟨w3.heap.size, 0, none⟩ = some (.int .i64 ilo) ∧ W4.drew.cell? ⟨w3.heap.size, 1, none⟩ = some (.int .i64 ihi) := ⟨q0, q1, q2, q3⟩
        change wpAnyH _ _ _ _ _ _ _ _ W4.drew
        clear q0 q1 q2 q3
        refine wpAnyH_take (i := 0) (v := ?_) rfl (by kernel_rfl) (by kernel_rfl) (by kernel_rfl) (fun _ _ _ h => h) (Or.inl ⟨by kernel_rfl, ?_⟩) (by assumption) ?_
        rotate_left 1
        · (intro w hSw; obtain ⟨hk1, hk2, hk3, hk4⟩ := hSw; go_simp <;> with_reducible rfl)
        simp only [Act.put, List.getElem_toArray, List.getElem_cons_zero, List.setIfInBounds_toArray, List.set_cons_zero, List.set_cons_succ]
        refine wpAnyH_take (i := 1) (v := ?_) rfl (by kernel_rfl) (by kernel_rfl) (by kernel_rfl) (fun _ _ _ h => h) (Or.inl ⟨by kernel_rfl, ?_⟩) (by assumption) ?_
        rotate_left 1
        · (intro w hSw; obtain ⟨hk1, hk2, hk3, hk4⟩ := hSw; go_simp <;> with_reducible rfl)
        simp only [Act.put, List.getElem_toArray, List.getElem_cons_zero, List.getElem_cons_succ, List.setIfInBounds_toArray, List.set_cons_zero, List.set_cons_succ]
        refine wpAnyH_take (i := 2) (v := ?_) rfl (by kernel_rfl) (by kernel_rfl) (by kernel_rfl) (fun _ _ _ h => h) (Or.inl ⟨by kernel_rfl, ?_⟩) (by assumption) ?_
        rotate_left 1
        · (intro w hSw; obtain ⟨hk1, hk2, hk3, hk4⟩ := hSw; go_simp <;> with_reducible rfl)
        simp only [Act.put, List.getElem_toArray, List.getElem_cons_zero, List.getElem_cons_succ, List.setIfInBounds_toArray, List.set_cons_zero, List.set_cons_succ]
        refine wpAnyH_take (i := 3) (v := ?_) rfl (by kernel_rfl) (by kernel_rfl) (by kernel_rfl) (fun _ _ _ h => h) (Or.inl ⟨by kernel_rfl, ?_⟩) (by assumption) ?_
        rotate_left 1
        · (intro w hSw; obtain ⟨hk1, hk2, hk3, hk4⟩ := hSw; go_simp <;> with_reducible rfl)
        simp only [Act.put, List.getElem_toArray, List.getElem_cons_zero, List.getElem_cons_succ, List.setIfInBounds_toArray, List.set_cons_zero, List.set_cons_succ]
        refine wpAnyH_take (i := 4) (v := ?_) rfl (by kernel_rfl) (by kernel_rfl) (by kernel_rfl) (fun _ _ _ h => h) (Or.inl ⟨by kernel_rfl, ?_⟩) (by assumption) ?_
        rotate_left 1
        · (intro w hSw; obtain ⟨hk1, hk2, hk3, hk4⟩ := hSw; go_simp <;> with_reducible rfl)
        simp only [Act.put, List.getElem_toArray, List.getElem_cons_zero, List.getElem_cons_succ, List.setIfInBounds_toArray, List.set_cons_zero, List.set_cons_succ]
        refine wpAnyH_take (i := 5) (v := ?_) rfl (by kernel_rfl) (by kernel_rfl) (by kernel_rfl) (fun _ _ _ h => h) (Or.inl ⟨by kernel_rfl, ?_⟩) (by assumption) ?_
        rotate_left 1
        · (intro w hSw; obtain ⟨hk1, hk2, hk3, hk4⟩ := hSw; go_simp <;> with_reducible rfl)
        simp only [Act.put, List.getElem_toArray, List.getElem_cons_zero, List.getElem_cons_succ, List.setIfInBounds_toArray, List.set_cons_zero, List.set_cons_succ]
        refine wpAnyH_take (i := 6) (v := ?_) rfl (by kernel_rfl) (by kernel_rfl) (by kernel_rfl) (fun _ _ _ h => h) (Or.inl ⟨by kernel_rfl, ?_⟩) (by assumption) ?_
        rotate_left 1
        · (intro w hSw; obtain ⟨hk1, hk2, hk3, hk4⟩ := hSw; go_simp <;> with_reducible rfl)
        simp only [Act.put, List.getElem_toArray, List.getElem_cons_zero, List.getElem_cons_succ, List.setIfInBounds_toArray, List.set_cons_zero, List.set_cons_succ]
        refine wpAnyH_take (i := 7) (v := ?_) rfl (by kernel_rfl) (by kernel_rfl) (by kernel_rfl) (fun _ _ _ h => h) (Or.inl ⟨by kernel_rfl, ?_⟩) (by assumption) ?_
        rotate_left 1
        · (intro w hSw; obtain ⟨hk1, hk2, hk3, hk4⟩ := hSw; go_simp <;> with_reducible rfl)
        simp only [Act.put, List.getElem_toArray, List.getElem_cons_zero, List.getElem_cons_succ, List.setIfInBounds_toArray, List.set_cons_zero, List.set_cons_succ]
        refine wpAnyH_take (i := 8) (v := ?_) rfl (by kernel_rfl) (by kernel_rfl) (by kernel_rfl) (fun _ _ _ h => h) (Or.inl ⟨by kernel_rfl, ?_⟩) (by assumption) ?_
        rotate_left 1
        · (intro w hSw; obtain ⟨hk1, hk2, hk3, hk4⟩ := hSw; go_simp <;> with_reducible rfl)
        simp only [Act.put, List.getElem_toArray, List.getElem_cons_zero, List.getElem_cons_succ, List.setIfInBounds_toArray, List.set_cons_zero, List.set_cons_succ]
        refine wpAnyH_take (i := 9) (v := ?_) rfl (by kernel_rfl) (by kernel_rfl) (by kernel_rfl) (fun _ _ _ h => h) (Or.inl ⟨by kernel_rfl, ?_⟩) (by assumption) ?_
        rotate_left 1
        · (intro w hSw; obtain ⟨hk1, hk2, hk3, hk4⟩ := hSw; go_simp <;> with_reducible rfl)
        simp only [Act.put, List.getElem_toArray, List.getElem_cons_zero, List.getElem_cons_succ, List.setIfInBounds_toArray, List.set_cons_zero, List.set_cons_succ]
        refine wpAnyH_take (i := 10) (v := ?_) rfl (by kernel_rfl) (by kernel_rfl) (by kernel_rfl) (fun _ _ _ h => h) (Or.inl ⟨by kernel_rfl, ?_⟩) (by assumption) ?_
        rotate_left 1
        · (intro w hSw; obtain ⟨hk1, hk2, hk3, hk4⟩ := hSw; go_simp <;> with_reducible rfl)
        simp only [Act.put, List.getElem_toArray, List.getElem_cons_zero, List.getElem_cons_succ, List.setIfInBounds_toArray, List.set_cons_zero, List.set_cons_succ]
        refine nextH (i := 11) (by kernel_rfl) rfl (fun K hK => ?_)
        go_simp
        refine (HU.out _).mono ?_
        rintro e w5 ⟨rfl, rfl⟩
        try dsimp only
        refine hK _ _ hSd ?_
        clear hK K
        refine wpAnyH_take (i := 12) (v := ?_) rfl (by kernel_rfl) (by kernel_rfl) (by kernel_rfl) (fun _ _ _ h => h) (Or.inl ⟨by kernel_rfl, ?_⟩) (by assumption) ?_
        rotate_left 1
        · (intro w hSw; obtain ⟨hk1, hk2, hk3, hk4⟩ := hSw; go_simp <;> with_reducible rfl)
        simp only [Act.put, List.getElem_toArray, List.getElem_cons_zero, List.getElem_cons_succ, List.setIfInBounds_toArray, List.set_cons_zero, List.set_cons_succ]
        refine nextH (i := 13) (by kernel_rfl) rfl (fun K hK => ?_)
        go_simp
        obtain ⟨W5, hW5⟩ : ∃ W5, (W4.alloc (.cells #[.int .i64 (max 0 lo / ihi), .int .i64 (up hi' ilo)] 51)).drew = W5 := ⟨_, rfl⟩
        have hb45 : Below W4.heap.size W4 W5 := by rw [← hW5]; exact (alloc_bel _ _).drew
        have hnew : Blk W5 W4.heap.size 51 [.int .i64 (max 0 lo / ihi), .int .i64 (up hi' ilo)] := by rw [← hW5]; exact (Blk.new W4 _ [_, _]).drewN 1
        have hown5 := ownsRow_bel hown4 hb45
        have hbr5 := tr hbr4 hb45 hbr4.size
        have hs5 : V.heap.size ≤ W5.heap.size := by have := hbr.size; have := hbr5.size; omega
        have hS5 : W5.cell? ⟨w2.heap.size, 0, none⟩ = some (.int .i64 lo) ∧ W5.cell? ⟨w2.heap.size, 1, none⟩ = some (.int .i64 hi') ∧ W5.cell? ⟨w3.heap.size, 0, none⟩ = some (.int .i64 ilo) ∧ W5.cell? ⟨w3.heap.size, 1, none⟩ = some (.int .i64 ihi) := by
          obtain ⟨g0, g1, g2, g3⟩ := hSd
          exact ⟨(hb45.cell (p := ⟨_, 0, none⟩) hq8).trans g0, (hb45.cell (p := ⟨_, 1, none⟩) hq8).trans g1, (hb45.cell (p := ⟨_, 0, none⟩) hq9).trans g2, (hb45.cell (p := ⟨_, 1, none⟩) hq9).trans g3⟩
        rw [hW5]
        clear hW5 hSd hown4 hown
        try dsimp only
        refine hK _ _ hS5 ?_
        clear hK K
        refine nextH (i := 14) (by kernel_rfl) rfl (fun K hK => ?_)
        refine step_append_lies _ (by rfl) _ _ _ (by rfl) V.heap.size 51 i0 _ 2 16 Try.underlying57 hi iz0 iz1 iz2 rfl (by decide) _ k (gs (lam l after width k).1) (by rfl) hown5 ⟨_, 0, none⟩ 1 1 [.int .i64 (max 0 lo / ihi), .int .i64 (up hi' ilo)] (by rfl) rfl (World.news_of_block hnew) (by simp [Value.oneCell']) (by decide) (by unfold maxLen; omega) (by omega) hs5 _ rfl ?_
        intro gv cv W6 hov hgv hatv hltv
        have hS6 : W6.cell? ⟨w2.heap.size, 0, none⟩ = some (.int .i64 lo) ∧ W6.cell? ⟨w2.heap.size, 1, none⟩ = some (.int .i64 hi') ∧ W6.cell? ⟨w3.heap.size, 0, none⟩ = some (.int .i64 ilo) ∧ W6.cell? ⟨w3.heap.size, 1, none⟩ = some (.int .i64 ihi) := by
          obtain ⟨g0, g1, g2, g3⟩ := hS5
          have hne : ∀ j, Value.ownBlock (.slice BA k cb) = some j → j ≠ w2.heap.size ∧ j ≠ w3.heap.size := fun j hj => by have := hX7 j hj; omega
          exact ⟨grown_cell hgv g0 fun j hj => (hne j hj).1, grown_cell hgv g1 fun j hj => (hne j hj).1, grown_cell hgv g2 fun j hj => (hne j hj).2, grown_cell hgv g3 fun j hj => (hne j hj).2⟩
        have hbV6 : Below V.heap.size V W6 := (tr hbr hbr5 hbr.size).grown hgv hs5 (fun j hj => (hown5.lt j hj).1)
        simp only [Act.put, List.getElem_toArray, List.getElem_cons_zero, List.getElem_cons_succ, List.setIfInBounds_toArray, List.set_cons_zero, List.set_cons_succ]
        refine hK _ _ hS6 ?_
        clear hK K hS5
        refine nextH (i := 15) (by kernel_rfl) rfl (fun K hK => ?_)
        go_simp
        refine hK _ _ hS6 ?_
        clear hK K
        refine wpAnyH_done (by kernel_rfl) ?_ _
        have hbr7 := hbV6
        go_wp2
        go_roundw
        case rel => exact ⟨k + 1, by omega, by go_num, hbV6, by rw [HF.out, gs_append]; exact hov, by show _ = _; rw [HF.out]⟩
        case measure => simp [intOf]; omega
    · obtain rfl : k = N := by omega
      obtain ⟨BA, cb, rfl⟩ := ownsRow_slice hown
      go_wp2
      refine bodyPost_ret (v := .tuple #[.slice BA k cb, .int .i64 0, .int .i64 0]) (by simp [results, Try.results48, go_sem]; try rfl) rfl ?_
      rw [HP.out]
      exact ⟨.inl ⟨h0.out, BA, cb, own_cap hown, rfl, RdT.of_own hown⟩, hBr⟩

theorem laminatedAllCap_ok (A : Option Addr) (c : Nat) (after width : Int) (l : List PT) (w : World) (hr : Rd w A (ps l)) (hT : Tr l after width) :
    Calls Try.prog 19 #[.agg #[.slice A l.length c, .int .i64 after, .int .i64 width]] w (LamCap l after width w) := by
  have hl : l.length ≤ 1000 := by have := hT.n1; omega
  have HC := hide (fun W h => checked_c A c after width l W h hl)
  obtain ⟨V, hV⟩ : ∃ V, w.alloc (.cells #[.slice A l.length c, .int .i64 after, .int .i64 width] 30) = V := ⟨_, rfl⟩
  have hX0 : Blk V w.heap.size 30 [.slice A l.length c, .int .i64 after, .int .i64 width] := by rw [← hV]; exact Blk.new w _ [_, _, _]
  have hBV : Below w.heap.size w V := by rw [← hV]; exact alloc_bel w _
  have hrV := hr.bel hBV
  have HW := hide hV
  clear hV hr
  have c0 := hX0.cell 0; have c1 := hX0.cell 1; have c2 := hX0.cell 2; simp only [List.getElem?_cons_zero, List.getElem?_cons_succ] at c0 c1 c2
  have HV : Hid (chkV A l.length c after width (trE l after width).2 = .tuple #[.agg #[.slice A l.length c, .int .i64 after, .int .i64 width], .int .i64 0]) := by show _ = _; unfold chkV; rw [hT.err]; rfl
  rw [HV.out] at HC
  clear HV
  by_cases h0 : (lam l after width (l.length - 1)).2 = 0
  · have HL : Hid (∀ W, Rd W A (ps l) → Calls Try.prog 48 #[.agg #[.slice A l.length c, .int .i64 after, .int .i64 width]] W fun r w' => (∃ A c, l.length - 1 ≤ c ∧ r = .returned (.tuple #[.slice A (l.length - 1) c, .int .i64 0, .int .i64 0]) ∧ RdT w' 51 A (gs (lam l after width (l.length - 1)).1)) ∧ Below W.heap.size W w') := fun W h => (laminatedCap_c A c after width l W h hT).mono fun r w' hx => by
      obtain ⟨h, hb⟩ := hx
      rcases h with ⟨_, h⟩ | ⟨h, _⟩
      · exact ⟨h, hb⟩
      · exact absurd h0 h
    have H0 := hide h0
    clear h0
    go_enter Try.func19, Try.ntmps19
    go_upto_region 1 with fail
    rw [HW.out]
    go_wp2_with (first
      | (go_at_call 47; refine (HC.out _ hrV).mono ?_; rintro e w2 ⟨rfl, hb2⟩; have hr2 := hrV.bel hb2)
      | (go_at_call 48; refine (HL.out _ (hr2.alloc _)).mono ?_; rintro e w3 ⟨⟨A3, c3, hcap, rfl, hrd⟩, hb3⟩))
    refine bodyPost_ret (v := .tuple #[.slice A3 (l.length - 1) c3, .int .i64 0, .int .i64 0]) (by simp [results, Try.results19, go_sem]; try rfl) rfl ⟨.inl ⟨H0.out, A3, c3, hcap, rfl, hrd⟩, ?_⟩
    exact bel_tr (bel_alloc (bel_tr hBV hBV.size hb2) (by have := hBV.size; have := hb2.size; omega) _) (by have := hBV.size; have := hb2.size; simp; omega) hb3
  · have HL : Hid (∀ W, Rd W A (ps l) → Calls Try.prog 48 #[.agg #[.slice A l.length c, .int .i64 after, .int .i64 width]] W fun r w' => r = .returned (.tuple #[.slice none 0 0, .int .i64 (lam l after width (l.length - 1)).2, .int .i64 13]) ∧ Below W.heap.size W w') := fun W h => (laminatedCap_c A c after width l W h hT).mono fun r w' hx => by
      obtain ⟨h, hb⟩ := hx
      rcases h with ⟨h, _⟩ | ⟨_, h⟩
      · exact absurd h h0
      · exact ⟨h, hb⟩
    have H0 := hide h0
    clear h0
    go_enter Try.func19, Try.ntmps19
    go_upto_region 1 with fail
    rw [HW.out]
    go_wp2_with (first
      | (go_at_call 47; refine (HC.out _ hrV).mono ?_; rintro e w2 ⟨rfl, hb2⟩; have hr2 := hrV.bel hb2)
      | (go_at_call 48; refine (HL.out _ (hr2.alloc _)).mono ?_; rintro e w3 ⟨rfl, hb3⟩))
    refine bodyPost_ret (v := .tuple #[.slice none 0 0, .int .i64 (lam l after width (l.length - 1)).2, .int .i64 13]) (by simp [results, Try.results19, go_sem]; try rfl) rfl ⟨.inr ⟨H0.out, rfl⟩, ?_⟩
    exact bel_tr (bel_alloc (bel_tr hBV hBV.size hb2) (by have := hBV.size; have := hb2.size; omega) _) (by have := hBV.size; have := hb2.size; simp; omega) hb3


end Go.Proofs.Ytdeehodekilaiaa
