/- Contracts: the reference's index of a point, its heights. -/
import Derived.Test.YtgnhkjfdicdcmaaG1
import Derived.Test.YtgnhkjfdicdcmaaK2
namespace Go.Proofs.Ytgnhkjfdicdcmaa
open Go.RowKit
set_option maxRecDepth 100000


set_option maxHeartbeats 1000000 in
theorem own_c (b off n c j : Nat) (after width fj f : Int) (w : World) (hj0 : w.cell? ⟨b, off + j * 3, none⟩ = some (.int .i64 fj)) (hb : b < w.heap.size) (hj : j < n) (h1 : 1 ≤ fj) (h2 : fj ≤ 3000) (f1 : 1 ≤ f) (f2 : f ≤ 3000) (hsq : fj * fj < f * f) :
    Calls Try.prog 99 #[.agg #[.slice (some ⟨b, off, none⟩) n c, .int .i64 after, .int .i64 width], .int .i64 j, .int .i64 f] w fun r w' => r = .returned (.agg #[.int .i64 (idx (fj * fj) f).1, .int .i64 (idx (fj * fj) f).2]) ∧ Below w.heap.size w w' := by
  have hm := mul_bd (a := fj) (b := fj) (A := 3000) (B := 3000) (by omega) h2 (by omega) h2
  have HI := hide (fun W => refIndex_c (fj * fj) f W f1 f2 hm.1 hsq)
  obtain ⟨W0, hW0⟩ : ∃ W0, (w.alloc (.cells #[.slice (some ⟨b, off, none⟩) n c, .int .i64 after, .int .i64 width] 73)).alloc (.cells #[.int .i64 0, .int .i64 0] 54) = W0 := ⟨_, rfl⟩
  obtain ⟨p, hp⟩ : ∃ p, w.heap.size = p := ⟨_, rfl⟩
  have hX0 : Blk W0 p 73 [.slice (some ⟨b, off, none⟩) n c, .int .i64 after, .int .i64 width] := by rw [← hW0, ← hp]; exact (two_new w _ _ [_, _, _] [_, _]).1
  have hR0 : Blk W0 (p + 1) 54 [.int .i64 0, .int .i64 0] := by rw [← hW0, ← hp]; exact (two_new w _ _ [_, _, _] [_, _]).2.1
  have hB0 : Below p w W0 := by rw [← hW0, ← hp]; exact (two_new w _ _ [_, _, _] [_, _]).2.2
  have y0 : W0.cell? ⟨b, off + j * 3, none⟩ = some (.int .i64 fj) := (hB0.cell (p := ⟨b, off + j * 3, none⟩) (by show b < p; omega)).trans hj0
  have HW := hide hW0
  clear hW0 hj0 hsq
  have c0 := hX0.cell 0; have c1 := hX0.cell 1; have c2 := hX0.cell 2; simp only [List.getElem?_cons_zero, List.getElem?_cons_succ] at c0 c1 c2
  have z0 := hX0.lt
  have zb : b < W0.heap.size := by omega
  have hjI : (j : Int) < (n : Int) := by omega
  have u1 : IntKind.i64.wrap (fj * fj) = fj * fj := by simp (disch := omega) only [IntWalk.i64_in]
  generalize (idx (fj * fj) f).1 = i1 at HI ⊢
  generalize (idx (fj * fj) f).2 = i2 at HI ⊢
  go_enter Try.func99, Try.ntmps99
  go_upto_region 1 with fail
  rw [HW.out]
  refine wp_region_M (fun w' => (∀ b o, b < W0.heap.size → w'.cell? ⟨b, o, none⟩ = W0.cell? ⟨b, o, none⟩) ∧ Below W0.heap.size W0 w') 15 (by kernel_rfl) ?_
  have hSd : (∀ b o, b < W0.heap.size → W0.drew.cell? ⟨b, o, none⟩ = W0.cell? ⟨b, o, none⟩) ∧ Below W0.heap.size W0 W0.drew := kp (Below.refl _ _).drew
  refine AnyM.take (i := 0) (v := ?_) rfl (by kernel_rfl) (by kernel_rfl) (by kernel_rfl) (by kernel_rfl) (fun _ _ _ h => h) (Or.inl ⟨by rfl, ?_⟩) (by assumption) ?_
  rotate_left 1
  · (intro w hSw; obtain ⟨hk1, hk2⟩ := hSw; go_simp <;> with_reducible rfl)
  simp only [Act.put, List.getElem_toArray, List.getElem_cons_zero, List.setIfInBounds_toArray, List.set_cons_zero, List.set_cons_succ]
  refine AnyM.take (i := 1) (v := ?_) rfl (by kernel_rfl) (by kernel_rfl) (by kernel_rfl) (by kernel_rfl) (fun _ _ _ h => h) (Or.inl ⟨by rfl, ?_⟩) (by assumption) ?_
  rotate_left 1
  · (intro w hSw; obtain ⟨hk1, hk2⟩ := hSw; go_simp <;> with_reducible rfl)
  simp only [Act.put, List.getElem_toArray, List.getElem_cons_zero, List.getElem_cons_succ, List.setIfInBounds_toArray, List.set_cons_zero, List.set_cons_succ]
  refine AnyM.take (i := 2) (v := ?_) rfl (by kernel_rfl) (by kernel_rfl) (by kernel_rfl) (by kernel_rfl) (fun _ _ _ h => h) (Or.inl ⟨by rfl, ?_⟩) (by assumption) ?_
  rotate_left 1
  · (intro w hSw; obtain ⟨hk1, hk2⟩ := hSw; go_simp <;> with_reducible rfl)
  simp only [Act.put, List.getElem_toArray, List.getElem_cons_zero, List.getElem_cons_succ, List.setIfInBounds_toArray, List.set_cons_zero, List.set_cons_succ]
  refine AnyM.take (i := 3) (v := ?_) rfl (by kernel_rfl) (by kernel_rfl) (by kernel_rfl) (by kernel_rfl) (fun _ _ _ h => h) (Or.inl ⟨by rfl, ?_⟩) (by assumption) ?_
  rotate_left 1
  · (intro w hSw; obtain ⟨hk1, hk2⟩ := hSw; go_simp <;> with_reducible rfl)
  simp only [Act.put, List.getElem_toArray, List.getElem_cons_zero, List.getElem_cons_succ, List.setIfInBounds_toArray, List.set_cons_zero, List.set_cons_succ]
  refine AnyM.take (i := 4) (v := ?_) rfl (by kernel_rfl) (by kernel_rfl) (by kernel_rfl) (by kernel_rfl) (fun _ _ _ h => h) (Or.inl ⟨by rfl, ?_⟩) (by assumption) ?_
  rotate_left 1
  · (intro w hSw; obtain ⟨hk1, hk2⟩ := hSw; go_simp <;> with_reducible rfl)
  simp only [Act.put, List.getElem_toArray, List.getElem_cons_zero, List.getElem_cons_succ, List.setIfInBounds_toArray, List.set_cons_zero, List.set_cons_succ]
  refine AnyM.take (i := 5) (v := ?_) rfl (by kernel_rfl) (by kernel_rfl) (by kernel_rfl) (by kernel_rfl) (fun _ _ _ h => h) (Or.inl ⟨by rfl, ?_⟩) (by assumption) ?_
  rotate_left 1
  · (intro w hSw; obtain ⟨hk1, hk2⟩ := hSw; go_simp <;> with_reducible rfl)
  simp only [Act.put, List.getElem_toArray, List.getElem_cons_zero, List.getElem_cons_succ, List.setIfInBounds_toArray, List.set_cons_zero, List.set_cons_succ]
  refine AnyM.take (i := 6) (v := ?_) rfl (by kernel_rfl) (by kernel_rfl) (by kernel_rfl) (by kernel_rfl) (fun _ _ _ h => h) (Or.inl ⟨by rfl, ?_⟩) (by assumption) ?_
  rotate_left 1
  · (intro w hSw; obtain ⟨hk1, hk2⟩ := hSw; go_simp <;> with_reducible rfl)
  simp only [Act.put, List.getElem_toArray, List.getElem_cons_zero, List.getElem_cons_succ, List.setIfInBounds_toArray, List.set_cons_zero, List.set_cons_succ]
  refine AnyM.take (i := 7) (v := ?_) rfl (by kernel_rfl) (by kernel_rfl) (by kernel_rfl) (by kernel_rfl) (fun _ _ _ h => h) (Or.inl ⟨by rfl, ?_⟩) (by assumption) ?_
  rotate_left 1
  · (intro w hSw; obtain ⟨hk1, hk2⟩ := hSw; go_simp <;> with_reducible rfl)
  simp only [Act.put, List.getElem_toArray, List.getElem_cons_zero, List.getElem_cons_succ, List.setIfInBounds_toArray, List.set_cons_zero, List.set_cons_succ]
  refine AnyM.take (i := 8) (v := ?_) rfl (by kernel_rfl) (by kernel_rfl) (by kernel_rfl) (by kernel_rfl) (fun _ _ _ h => h) (Or.inl ⟨by rfl, ?_⟩) (by assumption) ?_
  rotate_left 1
  · (intro w hSw; obtain ⟨hk1, hk2⟩ := hSw; go_simp <;> with_reducible rfl)
  simp only [Act.put, List.getElem_toArray, List.getElem_cons_zero, List.getElem_cons_succ, List.setIfInBounds_toArray, List.set_cons_zero, List.set_cons_succ]
  refine AnyM.take (i := 9) (v := ?_) rfl (by kernel_rfl) (by kernel_rfl) (by kernel_rfl) (by kernel_rfl) (fun _ _ _ h => h) (Or.inl ⟨by rfl, ?_⟩) (by assumption) ?_
  rotate_left 1
  · (intro w hSw; obtain ⟨hk1, hk2⟩ := hSw; go_simp <;> with_reducible rfl)
  simp only [Act.put, List.getElem_toArray, List.getElem_cons_zero, List.getElem_cons_succ, List.setIfInBounds_toArray, List.set_cons_zero, List.set_cons_succ]
  refine AnyM.take (i := 10) (v := ?_) rfl (by kernel_rfl) (by kernel_rfl) (by kernel_rfl) (by kernel_rfl) (fun _ _ _ h => h) (Or.inl ⟨by rfl, ?_⟩) (by assumption) ?_
  rotate_left 1
  · (intro w hSw; obtain ⟨hk1, hk2⟩ := hSw; go_simp <;> with_reducible rfl)
  simp only [Act.put, List.getElem_toArray, List.getElem_cons_zero, List.getElem_cons_succ, List.setIfInBounds_toArray, List.set_cons_zero, List.set_cons_succ]
  refine AnyM.take (i := 11) (v := ?_) rfl (by kernel_rfl) (by kernel_rfl) (by kernel_rfl) (by kernel_rfl) (fun _ _ _ h => h) (Or.inl ⟨by rfl, ?_⟩) (by assumption) ?_
  rotate_left 1
  · (intro w hSw; obtain ⟨hk1, hk2⟩ := hSw; go_simp <;> with_reducible rfl)
  simp only [Act.put, List.getElem_toArray, List.getElem_cons_zero, List.getElem_cons_succ, List.setIfInBounds_toArray, List.set_cons_zero, List.set_cons_succ]
  refine AnyM.take (i := 12) (v := ?_) rfl (by kernel_rfl) (by kernel_rfl) (by kernel_rfl) (by kernel_rfl) (fun _ _ _ h => h) (Or.inl ⟨by rfl, ?_⟩) (by assumption) ?_
  rotate_left 1
  · (intro w hSw; obtain ⟨hk1, hk2⟩ := hSw; go_simp <;> with_reducible rfl)
  simp only [Act.put, List.getElem_toArray, List.getElem_cons_zero, List.getElem_cons_succ, List.setIfInBounds_toArray, List.set_cons_zero, List.set_cons_succ]
  refine AnyM.take (i := 13) (v := ?_) rfl (by kernel_rfl) (by kernel_rfl) (by kernel_rfl) (by kernel_rfl) (fun _ _ _ h => h) (Or.inl ⟨by rfl, ?_⟩) (by assumption) ?_
  rotate_left 1
  · (intro w hSw; obtain ⟨hk1, hk2⟩ := hSw; go_simp <;> with_reducible rfl)
  simp only [Act.put, List.getElem_toArray, List.getElem_cons_zero, List.getElem_cons_succ, List.setIfInBounds_toArray, List.set_cons_zero, List.set_cons_succ]
  refine AnyM.next [14] (by kernel_rfl) (by simp) ?_
  refine NextM.cons rfl (fun K hK => ?_) NextM.nil
  go_simp
  refine (HI.out _).mono ?_
  rintro e w3 ⟨rfl, hb3⟩
  have hS3 := kp (bel_tr hSd.2 hSd.2.size hb3)
  try dsimp only
  refine hK _ _ (fun _ => hS3) ?_
  clear hK K hSd
  have hR3 := hR0.bel hS3.2
  have hB3 := bel_tr hB0 (by omega) hS3.2
  have r0 := hR3.frozen 0
  have r1 := hR3.frozen 1
  have e0 := hR3.cell 0; have e1 := hR3.cell 1; simp only [List.getElem?_cons_zero, List.getElem?_cons_succ] at e0 e1
  have r4 := hR3.lt
  clear hS3 hb3 c0 c1 c2 y0
  refine AnyM.next [15] (by kernel_rfl) (by simp) ?_
  refine NextM.cons rfl (fun K hK => ?_) NextM.nil
  go_simp
  refine hK _ _ (fun h => by simp at h) ?_
  clear hK K
  refine AnyM.done (by kernel_rfl) ?_ _
  go_wp2
  have hBE : Below p w ((w3.setCell ⟨p + 1, 0, none⟩ (.int .i64 i1)).setCell ⟨p + 1, 1, none⟩ (.int .i64 i2)) := (hB3.setCell (by show p ≤ p + 1; omega) _).setCell (by show p ≤ p + 1; omega) _
  have hRE := (hR3.set_ 0 (.int .i64 i1)).set_ 1 (.int .i64 i2)
  generalize (w3.setCell ⟨p + 1, 0, none⟩ (.int .i64 i1)).setCell ⟨p + 1, 1, none⟩ (.int .i64 i2) = WE at hBE hRE ⊢
  have v0 := hRE.cell 0
  have v1 := hRE.cell 1
  simp only [List.set_cons_zero, List.set_cons_succ, List.getElem?_cons_zero, List.getElem?_cons_succ] at v0 v1
  exact bodyPost_ret (v := .agg #[.int .i64 i1, .int .i64 i2]) (by simp [results, Try.results99, go_sem, v0, v1]; try rfl) rfl ⟨rfl, by rw [hp]; exact hBE⟩

set_option maxHeartbeats 4000000 in
theorem refHeightsOf_c (A B : Option Addr) (c d : Nat) (after width : Int) (l : List PT) (L : List G) (w : World) (hr : Rd w A (ps l)) (hs : Rd w B (gs L)) (hT : Tr l after width) (hTh : Thick L) (hL8 : L.length ≤ 7) :
    Calls Try.prog 58 #[.agg #[.slice A l.length c, .int .i64 after, .int .i64 width], .slice B L.length d] w fun r w' => (∃ A' c', r = .returned (.slice A' (L.length + 1) c') ∧ Rd w' A' (gs (hts l after width L (L.length + 1)))) ∧ Below w.heap.size w w' := by
  obtain ⟨i0, hi, iz0, iz1, iz2⟩ := info_parts Try.infoR
  have hn0 := hT.n0
  have hn1 := hT.n1
  have hp0 := hT.pt 0 (by omega)
  have hw0 := hT.w0
  have hw1 := hT.w1
  have HZ := hide (htL_zero (l := l) (after := after) (width := width) (L := L) hT.a0)
  have HBD := hide (fun k => sums_bd hTh k)
  have HTH := hide (fun k => hTh.at k)
  clear hT hTh
  obtain ⟨W0, hW0⟩ : ∃ W0, w.alloc (.cells #[.slice A l.length c, .int .i64 after, .int .i64 width] 73) = W0 := ⟨_, rfl⟩
  obtain ⟨p, hp⟩ : ∃ p, w.heap.size = p := ⟨_, rfl⟩
  have hX0 : Blk W0 p 73 [.slice A l.length c, .int .i64 after, .int .i64 width] := by rw [← hW0, ← hp]; exact Blk.new w _ [_, _, _]
  have hB0 : Below p w W0 := by rw [← hW0, ← hp]; exact alloc_bel w _
  have hs0 : W0.heap.size = p + 1 := by rw [← hW0, ← hp]; simp
  have hr0 := hr.bel (by rw [hp]; exact hB0)
  have HW := hide hW0
  clear hW0 hr
  have c0 := hX0.cell 0; have c1 := hX0.cell 1; have c2 := hX0.cell 2; simp only [List.getElem?_cons_zero, List.getElem?_cons_succ] at c0 c1 c2
  have z0 := hX0.lt
  obtain ⟨b, off, rfl, hblt, _, y1, y2⟩ := hr0.p_at (show 0 < l.length by omega)
  rw [← getD_at (show 0 < l.length by omega) P0] at y1 y2
  rw [show (l.getD 0 P0).2.1 = plo l 0 from rfl] at y1
  rw [show (l.getD 0 P0).2.2 = phi l 0 from rfl] at y2
  simp only [Nat.zero_mul, Nat.add_zero] at y1 y2
  have h0l : 0 < l.length := by omega
  go_enter Try.func58, Try.ntmps58
  go_upto_region 1 with fail
  rw [HW.out]
  go_upto_region 2 with fail
  obtain ⟨V, hV⟩ : ∃ V, W0.alloc (.cells #[.int .i64 (plo l 0), .int .i64 (phi l 0)] 54) = V := ⟨_, rfl⟩
  have hbV : Below W0.heap.size W0 V := by rw [← hV]; exact alloc_bel _ _
  have hH1 : Blk V (p + 1) 54 [.int .i64 (plo l 0), .int .i64 (phi l 0)] := by rw [← hV, ← hs0]; exact Blk.new W0 _ [_, _]
  have hsV : V.heap.size = p + 2 := by rw [← hV]; simp [hs0]
  rw [hV]
  clear hV
  have hX1 := hX0.bel hbV
  have hB1 := bel_tr hB0 (by omega) hbV
  clear c0 c1 c2 y1 y2 hr0 hX0 z0
  have c0 := hX1.cell 0; have c1 := hX1.cell 1; have c2 := hX1.cell 2; simp only [List.getElem?_cons_zero, List.getElem?_cons_succ] at c0 c1 c2
  have g0 := hH1.cell 0; have g1 := hH1.cell 1; simp only [List.getElem?_cons_zero, List.getElem?_cons_succ] at g0 g1
  have z1 := hX1.lt
  have z2 := hH1.lt
  go_wp2
  obtain ⟨w1, hW1⟩ : ∃ W, V.alloc (.cells #[.int .i64 (plo l 0), .int .i64 (phi l 0)] 54) = W := ⟨_, rfl⟩
  have hb2 : Below V.heap.size V w1 := by rw [← hW1]; exact alloc_bel _ _
  have hown2 : w1.ownsRow (p + 2) 54 2 (.slice (some ⟨p + 2, 0, none⟩) 1 1) 1 [.int .i64 (plo l 0), .int .i64 (phi l 0)] := by rw [← hW1, ← hsV]; exact World.ownsRow_lit V #[.int .i64 (plo l 0), .int .i64 (phi l 0)] 1 (Nat.le_refl _) (by unfold maxLen; omega) rfl
  have hs1 : w1.heap.size = p + 3 := by rw [← hW1]; simp [hsV]
  have HS : Hid (gs (hts l after width L 1) = [.int .i64 (plo l 0), .int .i64 (phi l 0)]) := by show _ = _; simp only [hts]; rw [HZ.out]; rfl
  rw [hW1]
  have hX2 := hX1.bel hb2
  have hH2 := hH1.bel hb2
  have hB2 := bel_tr hB1 (by omega) hb2
  have hs1' : p + 3 ≤ w1.heap.size := by omega
  try rw [hsV]
  clear hW1 c0 c1 c2 g0 g1 z1 z2 hX1 hH1 hs1 hsV hbV hb2
  go_loopw [6, 7] (fun v x wr => ∃ k : Nat, k ≤ L.length ∧ x = .int .i64 k ∧ Below (p + 1) w1 wr ∧ p + 3 ≤ wr.heap.size ∧ Blk wr (p + 1) 54 [.int .i64 (plo l 0 + (sums L k).1), .int .i64 (phi l 0 + (sums L k).2)] ∧ wr.ownsRow (p + 2) 54 2 v (k + 1) (gs (hts l after width L (k + 1)))) (fun _ x _ => L.length - (intOf x).toNat)
  case atStart => exact ⟨0, Nat.zero_le _, rfl, Below.refl _ _, hs1', by show Blk w1 (p + 1) _ [.int .i64 (plo l 0 + 0), .int .i64 (phi l 0 + 0)]; rw [Int.add_zero, Int.add_zero]; exact hH2, by have h := hown2; rw [← HS.out] at h; exact h⟩
  case round =>
    obtain ⟨k, hk, rfl, hbr, hqr, hH, hown⟩ := hrel
    have hXr := hX2.below hbr (by omega)
    have hBr := hB2.trans (hbr.mono (show p ≤ p + 1 by omega))
    have hLr := hs.below hBr (by omega)
    obtain ⟨rg, rc, rfl, hrg, hrl⟩ := World.ownsRow.form hown (by omega)
    by_cases hlt : k < L.length
    · obtain ⟨lb, loff, rfl, hlb, t0, t1⟩ := hLr.g_at hlt
      have hth := HTH.out k
      have hbd := HBD.out k
      have HX : Hid (hts l after width L (k + 1 + 1) = hts l after width L (k + 1) ++ [htL l after width L (k + 1)]) := rfl
      have HSU : Hid ([.int .i64 (plo l 0 + (sums L (k + 1)).1), .int .i64 (phi l 0 + (sums L (k + 1)).2)] = ([.int .i64 (plo l 0 + (sums L k).1 + L[k].1), .int .i64 (phi l 0 + (sums L k).2 + L[k].2)] : List Value)) := by show _ = _; simp only [sums]; rw [getD_at hlt, ← Int.add_assoc, ← Int.add_assoc]
      have HTL : Hid (htL l after width L (k + 1) = (plo l 0 + (sums L k).1 + L[k].1, phi l 0 + (sums L k).2 + L[k].2 + (if after ≤ (k : Int) then width else 0))) := by
        show _ = _
        unfold htL
        simp only [sums]
        rw [getD_at hlt, ← Int.add_assoc, ← Int.add_assoc]
        congr 2
        split <;> split <;> omega
      rw [getD_at hlt] at hth
      obtain ⟨ha, hha⟩ : ∃ x, plo l 0 + (sums L k).1 = x := ⟨_, rfl⟩
      obtain ⟨hb', hhb⟩ : ∃ x, phi l 0 + (sums L k).2 = x := ⟨_, rfl⟩
      rw [hha] at hH HSU HTL
      rw [hhb] at hH HSU HTL
      have hbd2 : 0 ≤ ha ∧ ha ≤ 400000 ∧ 0 ≤ hb' ∧ hb' ≤ 400000 := by omega
      clear hha hhb hbd
      generalize L[k].1 = ta at t0 hth HSU HTL
      generalize L[k].2 = tb at t1 hth HSU HTL
      have g0 := hH.cell 0; have g1 := hH.cell 1; simp only [List.getElem?_cons_zero, List.getElem?_cons_succ] at g0 g1
      have gf0 := hH.frozen 0
      have gf1 := hH.frozen 1
      have zg := hH.lt
      have hlbs : lb < wr.heap.size := hlb
      have u1 : IntKind.i64.wrap (ha + ta) = ha + ta := by simp (disch := omega) only [IntWalk.i64_in]
      have u2 : IntKind.i64.wrap (hb' + tb) = hb' + tb := by simp (disch := omega) only [IntWalk.i64_in]
      have u3 : IntKind.i64.wrap (hb' + tb + width) = hb' + tb + width := by simp (disch := omega) only [IntWalk.i64_in]
      have hkI : (k : Int) < (L.length : Int) := by omega
      go_upto_region 6 with fail
      refine wp_region_M (fun w' => (∀ b o, b < wr.heap.size → w'.cell? ⟨b, o, none⟩ = wr.cell? ⟨b, o, none⟩) ∧ Below wr.heap.size wr w') 17 (by kernel_rfl) ?_
      have hSd : (∀ b o, b < wr.heap.size → wr.drew.cell? ⟨b, o, none⟩ = wr.cell? ⟨b, o, none⟩) ∧ Below wr.heap.size wr wr.drew := kp (Below.refl _ _).drew
      refine AnyM.take (i := 0) (v := ?_) rfl (by kernel_rfl) (by kernel_rfl) (by kernel_rfl) (by kernel_rfl) (fun _ _ _ h => h) (Or.inl ⟨by rfl, ?_⟩) (by assumption) ?_
      rotate_left 1
      · (intro w hSw; obtain ⟨hk1, hk2⟩ := hSw; go_simp <;> with_reducible rfl)
      simp only [Act.put, List.getElem_toArray, List.getElem_cons_zero, List.setIfInBounds_toArray, List.set_cons_zero, List.set_cons_succ]
      refine AnyM.take (i := 1) (v := ?_) rfl (by kernel_rfl) (by kernel_rfl) (by kernel_rfl) (by kernel_rfl) (fun _ _ _ h => h) (Or.inl ⟨by rfl, ?_⟩) (by assumption) ?_
      rotate_left 1
      · (intro w hSw; obtain ⟨hk1, hk2⟩ := hSw; go_simp <;> with_reducible rfl)
      simp only [Act.put, List.getElem_toArray, List.getElem_cons_zero, List.getElem_cons_succ, List.setIfInBounds_toArray, List.set_cons_zero, List.set_cons_succ]
      refine AnyM.take (i := 2) (v := ?_) rfl (by kernel_rfl) (by kernel_rfl) (by kernel_rfl) (by kernel_rfl) (fun _ _ _ h => h) (Or.inl ⟨by rfl, ?_⟩) (by assumption) ?_
      rotate_left 1
      · (intro w hSw; obtain ⟨hk1, hk2⟩ := hSw; go_simp <;> with_reducible rfl)
      simp only [Act.put, List.getElem_toArray, List.getElem_cons_zero, List.getElem_cons_succ, List.setIfInBounds_toArray, List.set_cons_zero, List.set_cons_succ]
      refine AnyM.take (i := 3) (v := ?_) rfl (by kernel_rfl) (by kernel_rfl) (by kernel_rfl) (by kernel_rfl) (fun _ _ _ h => h) (Or.inl ⟨by rfl, ?_⟩) (by assumption) ?_
      rotate_left 1
      · (intro w hSw; obtain ⟨hk1, hk2⟩ := hSw; go_simp <;> with_reducible rfl)
      simp only [Act.put, List.getElem_toArray, List.getElem_cons_zero, List.getElem_cons_succ, List.setIfInBounds_toArray, List.set_cons_zero, List.set_cons_succ]
      refine AnyM.take (i := 4) (v := ?_) rfl (by kernel_rfl) (by kernel_rfl) (by kernel_rfl) (by kernel_rfl) (fun _ _ _ h => h) (Or.inl ⟨by rfl, ?_⟩) (by assumption) ?_
      rotate_left 1
      · (intro w hSw; obtain ⟨hk1, hk2⟩ := hSw; go_simp <;> with_reducible rfl)
      simp only [Act.put, List.getElem_toArray, List.getElem_cons_zero, List.getElem_cons_succ, List.setIfInBounds_toArray, List.set_cons_zero, List.set_cons_succ]
      refine AnyM.take (i := 5) (v := ?_) rfl (by kernel_rfl) (by kernel_rfl) (by kernel_rfl) (by kernel_rfl) (fun _ _ _ h => h) (Or.inl ⟨by rfl, ?_⟩) (by assumption) ?_
      rotate_left 1
      · (intro w hSw; obtain ⟨hk1, hk2⟩ := hSw; go_simp <;> with_reducible rfl)
      simp only [Act.put, List.getElem_toArray, List.getElem_cons_zero, List.getElem_cons_succ, List.setIfInBounds_toArray, List.set_cons_zero, List.set_cons_succ]
      refine AnyM.take (i := 6) (v := ?_) rfl (by kernel_rfl) (by kernel_rfl) (by kernel_rfl) (by kernel_rfl) (fun _ _ _ h => h) (Or.inl ⟨by rfl, ?_⟩) (by assumption) ?_
      rotate_left 1
      · (intro w hSw; obtain ⟨hk1, hk2⟩ := hSw; go_simp <;> with_reducible rfl)
      simp only [Act.put, List.getElem_toArray, List.getElem_cons_zero, List.getElem_cons_succ, List.setIfInBounds_toArray, List.set_cons_zero, List.set_cons_succ]
      refine AnyM.take (i := 7) (v := ?_) rfl (by kernel_rfl) (by kernel_rfl) (by kernel_rfl) (by kernel_rfl) (fun _ _ _ h => h) (Or.inl ⟨by rfl, ?_⟩) (by assumption) ?_
      rotate_left 1
      · (intro w hSw; obtain ⟨hk1, hk2⟩ := hSw; go_simp <;> with_reducible rfl)
      simp only [Act.put, List.getElem_toArray, List.getElem_cons_zero, List.getElem_cons_succ, List.setIfInBounds_toArray, List.set_cons_zero, List.set_cons_succ]
      refine AnyM.take (i := 8) (v := ?_) rfl (by kernel_rfl) (by kernel_rfl) (by kernel_rfl) (by kernel_rfl) (fun _ _ _ h => h) (Or.inl ⟨by rfl, ?_⟩) (by assumption) ?_
      rotate_left 1
      · (intro w hSw; obtain ⟨hk1, hk2⟩ := hSw; go_simp <;> with_reducible rfl)
      simp only [Act.put, List.getElem_toArray, List.getElem_cons_zero, List.getElem_cons_succ, List.setIfInBounds_toArray, List.set_cons_zero, List.set_cons_succ]
      refine AnyM.take (i := 9) (v := ?_) rfl (by kernel_rfl) (by kernel_rfl) (by kernel_rfl) (by kernel_rfl) (fun _ _ _ h => h) (Or.inl ⟨by rfl, ?_⟩) (by assumption) ?_
      rotate_left 1
      · (intro w hSw; obtain ⟨hk1, hk2⟩ := hSw; go_simp <;> with_reducible rfl)
      simp only [Act.put, List.getElem_toArray, List.getElem_cons_zero, List.getElem_cons_succ, List.setIfInBounds_toArray, List.set_cons_zero, List.set_cons_succ]
      refine AnyM.take (i := 10) (v := ?_) rfl (by kernel_rfl) (by kernel_rfl) (by kernel_rfl) (by kernel_rfl) (fun _ _ _ h => h) (Or.inl ⟨by rfl, ?_⟩) (by assumption) ?_
      rotate_left 1
      · (intro w hSw; obtain ⟨hk1, hk2⟩ := hSw; go_simp <;> with_reducible rfl)
      simp only [Act.put, List.getElem_toArray, List.getElem_cons_zero, List.getElem_cons_succ, List.setIfInBounds_toArray, List.set_cons_zero, List.set_cons_succ]
      refine AnyM.take (i := 11) (v := ?_) rfl (by kernel_rfl) (by kernel_rfl) (by kernel_rfl) (by kernel_rfl) (fun _ _ _ h => h) (Or.inl ⟨by rfl, ?_⟩) (by assumption) ?_
      rotate_left 1
      · (intro w hSw; obtain ⟨hk1, hk2⟩ := hSw; go_simp <;> with_reducible rfl)
      simp only [Act.put, List.getElem_toArray, List.getElem_cons_zero, List.getElem_cons_succ, List.setIfInBounds_toArray, List.set_cons_zero, List.set_cons_succ]
      refine AnyM.take (i := 12) (v := ?_) rfl (by kernel_rfl) (by kernel_rfl) (by kernel_rfl) (by kernel_rfl) (fun _ _ _ h => h) (Or.inl ⟨by rfl, ?_⟩) (by assumption) ?_
      rotate_left 1
      · (intro w hSw; obtain ⟨hk1, hk2⟩ := hSw; go_simp <;> with_reducible rfl)
      simp only [Act.put, List.getElem_toArray, List.getElem_cons_zero, List.getElem_cons_succ, List.setIfInBounds_toArray, List.set_cons_zero, List.set_cons_succ]
      refine AnyM.take (i := 13) (v := ?_) rfl (by kernel_rfl) (by kernel_rfl) (by kernel_rfl) (by kernel_rfl) (fun _ _ _ h => h) (Or.inl ⟨by rfl, ?_⟩) (by assumption) ?_
      rotate_left 1
      · (intro w hSw; obtain ⟨hk1, hk2⟩ := hSw; go_simp <;> with_reducible rfl)
      simp only [Act.put, List.getElem_toArray, List.getElem_cons_zero, List.getElem_cons_succ, List.setIfInBounds_toArray, List.set_cons_zero, List.set_cons_succ]
      refine AnyM.take (i := 14) (v := ?_) rfl (by kernel_rfl) (by kernel_rfl) (by kernel_rfl) (by kernel_rfl) (fun _ _ _ h => h) (Or.inl ⟨by rfl, ?_⟩) (by assumption) ?_
      rotate_left 1
      · (intro w hSw; obtain ⟨hk1, hk2⟩ := hSw; go_simp <;> with_reducible rfl)
      simp only [Act.put, List.getElem_toArray, List.getElem_cons_zero, List.getElem_cons_succ, List.setIfInBounds_toArray, List.set_cons_zero, List.set_cons_succ]
      refine AnyM.take (i := 15) (v := ?_) rfl (by kernel_rfl) (by kernel_rfl) (by kernel_rfl) (by kernel_rfl) (fun _ _ _ h => h) (Or.inl ⟨by rfl, ?_⟩) (by assumption) ?_
      rotate_left 1
      · (intro w hSw; obtain ⟨hk1, hk2⟩ := hSw; go_simp <;> with_reducible rfl)
      simp only [Act.put, List.getElem_toArray, List.getElem_cons_zero, List.getElem_cons_succ, List.setIfInBounds_toArray, List.set_cons_zero, List.set_cons_succ]
      refine AnyM.take (i := 16) (v := ?_) rfl (by kernel_rfl) (by kernel_rfl) (by kernel_rfl) (by kernel_rfl) (fun _ _ _ h => h) (Or.inl ⟨by rfl, ?_⟩) (by assumption) ?_
      rotate_left 1
      · (intro w hSw; obtain ⟨hk1, hk2⟩ := hSw; go_simp <;> with_reducible rfl)
      simp only [Act.put, List.getElem_toArray, List.getElem_cons_zero, List.getElem_cons_succ, List.setIfInBounds_toArray, List.set_cons_zero, List.set_cons_succ]
      refine AnyM.next [17] (by kernel_rfl) (by simp) ?_
      refine NextM.cons rfl (fun K hK => ?_) NextM.nil
      go_simp
      refine hK _ _ (fun h => by simp at h) ?_
      clear hK K
      refine AnyM.done (by kernel_rfl) ?_ _
      obtain ⟨W4, hW4⟩ : ∃ W, ((wr.setCell ⟨p + 1, 0, none⟩ (.int .i64 (ha + ta))).setCell ⟨p + 1, 1, none⟩ (.int .i64 (hb' + tb))).drew = W := ⟨_, rfl⟩
      have hH4 : Blk W4 (p + 1) 54 [.int .i64 (ha + ta), .int .i64 (hb' + tb)] := by rw [← hW4]; exact ((hH.set_ 0 _).set_ 1 _).drewN 1
      have hX4 : Blk W4 p 73 [.slice (some ⟨b, off, none⟩) l.length c, .int .i64 after, .int .i64 width] := by rw [← hW4]; exact ((hXr.far (by show p ≠ p + 1; omega) _).far (by show p ≠ p + 1; omega) _).drewN 1
      have hown4 : W4.ownsRow (p + 2) 54 2 (.slice (some ⟨rg, 0, none⟩) (k + 1) rc) (k + 1) (gs (hts l after width L (k + 1))) := by rw [← hW4]; exact (own_ne' (own_ne' hown (by show rg ≠ p + 1; omega) _) (by show rg ≠ p + 1; omega) _).drew
      have hbr4 : Below (p + 1) w1 W4 := by rw [← hW4]; exact ((hbr.setCell (Nat.le_refl _) _).setCell (Nat.le_refl _) _).drew
      have hq4 : p + 3 ≤ W4.heap.size := by rw [← hW4]; simpa [World.setCell] using hqr
      rw [hW4]
      clear hW4 g0 g1 gf0 gf1 zg t0 t1 hSd hH hown hXr
      have g0 := hH4.cell 0; have g1 := hH4.cell 1; simp only [List.getElem?_cons_zero, List.getElem?_cons_succ] at g0 g1
      have zg := hH4.lt
      go_upto_region 8 with fail
      obtain ⟨W5, hW5⟩ : ∃ W, W4.alloc (.cells #[.int .i64 (ha + ta), .int .i64 (hb' + tb)] 54) = W := ⟨_, rfl⟩
      have hb5 : Below W4.heap.size W4 W5 := by rw [← hW5]; exact alloc_bel _ _
      obtain ⟨g, hg⟩ : ∃ g, W4.heap.size = g := ⟨_, rfl⟩
      have hG5 : Blk W5 g 54 [.int .i64 (ha + ta), .int .i64 (hb' + tb)] := by rw [← hW5, ← hg]; exact Blk.new W4 _ [_, _]
      have hH5 := hH4.bel hb5
      have hX5 := hX4.bel hb5
      have hown5 := ownsRow_bel hown4 hb5
      have hbr5 : Below (p + 1) w1 W5 := hbr4.trans (hb5.mono (by omega))
      have hq5 : p + 3 ≤ W5.heap.size := by have := hb5.size; omega
      try rw [hg]
      rw [hW5]
      have hgr : rg < g := by have := (hown4.lt rg rfl).2; omega
      clear hW5 g0 g1 zg hg
      have c0 := hX5.cell 0; have c1 := hX5.cell 1; have c2 := hX5.cell 2; simp only [List.getElem?_cons_zero, List.getElem?_cons_succ] at c0 c1 c2
      have g0 := hG5.cell 0; have g1 := hG5.cell 1; simp only [List.getElem?_cons_zero, List.getElem?_cons_succ] at g0 g1
      have gf := hG5.frozen 1
      have zg := hG5.lt
      have zx := hX5.lt
      by_cases hv : after ≤ (k : Int)
      · have HF : Hid (hts l after width L (k + 1 + 1) = hts l after width L (k + 1) ++ [(ha + ta, hb' + tb + width)]) := by show _ = _; rw [HX.out, HTL.out, if_pos hv]
        have e1 : decide (after ≤ (k : Int)) = true := decide_eq_true hv
        clear hv HTL HX
        go_upto_region 10 with fail
        obtain ⟨W6, hW6⟩ : ∃ W, W5.setCell ⟨g, 1, none⟩ (.int .i64 (hb' + tb + width)) = W := ⟨_, rfl⟩
        have hown6 : W6.ownsRow (p + 2) 54 2 (.slice (some ⟨rg, 0, none⟩) (k + 1) rc) (k + 1) (gs (hts l after width L (k + 1))) := by rw [← hW6]; exact own_ne' hown5 (by show rg ≠ g; omega) _
        have hbr6 : Below (p + 1) w1 W6 := by rw [← hW6]; exact hbr5.setCell (by show p + 1 ≤ g; omega) _
        have hG6 : Blk W6 g 54 [.int .i64 (ha + ta), .int .i64 (hb' + tb + width)] := by rw [← hW6]; exact hG5.set_ 1 _
        have hH6 : Blk W6 (p + 1) 54 [.int .i64 (ha + ta), .int .i64 (hb' + tb)] := by rw [← hW6]; exact hH5.far (by show p + 1 ≠ g; omega) _
        have hq6 : p + 3 ≤ W6.heap.size := by rw [← hW6]; simpa [World.setCell] using hq5
        rw [hW6]
        clear hW6 g0 g1 gf zg hH5
        have hH5 := hH6
        have g0 := hG6.cell 0; have g1 := hG6.cell 1; simp only [List.getElem?_cons_zero, List.getElem?_cons_succ] at g0 g1
        have zg := hG6.lt
        go_wp2_with (at_builtin; refine wpList_append_own _ rfl _ _ 84 rfl (p + 2) 54 i0 _ 2 16 Try.underlying84 hi iz0 iz1 iz2 rfl (by decide) _ _ _ rfl (hown6.alloc _) ⟨W6.heap.size, 0, none⟩ 1 1 [.int .i64 (ha + ta), .int .i64 (hb' + tb + width)] rfl rfl (World.news_of_block (heap_alloc_new W6 _)) (by simp [Value.oneCell']) (by unfold maxLen; omega) (by omega) (by simp; omega) ?_; intro v' w8 hown8 hg8 _)
        have hb8 : Below (p + 1) w1 w8 := (bel_alloc hbr6 (by omega) _).grown hg8 (by simp; omega) (fun j hj => by have := (hown6.lt j hj).1; omega)
        have hH8 := (hg8.block (p + 1) (by simp; omega) (fun e => by have := (hown6.lt (p + 1) e.symm).1; omega)).trans (hH5.bel (alloc_bel _ _))
        have hz8 : p + 3 ≤ w8.heap.size := by have := hg8.size; simp at this; omega
        go_roundw
        case rel => exact ⟨k + 1, by omega, by go_num, hb8, hz8, by rw [HSU.out]; exact hH8, by rw [HF.out, gs_append]; simpa [gs_cons] using hown8⟩
        case measure => simp [intOf]; omega
      · have HF : Hid (hts l after width L (k + 1 + 1) = hts l after width L (k + 1) ++ [(ha + ta, hb' + tb)]) := by show _ = _; rw [HX.out, HTL.out, if_neg hv, Int.add_zero]
        have e1 : decide (after ≤ (k : Int)) = false := decide_eq_false hv
        clear hv HTL HX
        go_upto_region 10 with fail
        go_wp2_with (at_builtin; refine wpList_append_own _ rfl _ _ 84 rfl (p + 2) 54 i0 _ 2 16 Try.underlying84 hi iz0 iz1 iz2 rfl (by decide) _ _ _ rfl (hown5.alloc _) ⟨W5.heap.size, 0, none⟩ 1 1 [.int .i64 (ha + ta), .int .i64 (hb' + tb)] rfl rfl (World.news_of_block (heap_alloc_new W5 _)) (by simp [Value.oneCell']) (by unfold maxLen; omega) (by omega) (by simp; omega) ?_; intro v' w8 hown8 hg8 _)
        have hb8 : Below (p + 1) w1 w8 := (bel_alloc hbr5 (by omega) _).grown hg8 (by simp; omega) (fun j hj => by have := (hown5.lt j hj).1; omega)
        have hH8 := (hg8.block (p + 1) (by simp; omega) (fun e => by have := (hown5.lt (p + 1) e.symm).1; omega)).trans (hH5.bel (alloc_bel _ _))
        have hz8 : p + 3 ≤ w8.heap.size := by have := hg8.size; simp at this; omega
        go_roundw
        case rel => exact ⟨k + 1, by omega, by go_num, hb8, hz8, by rw [HSU.out]; exact hH8, by rw [HF.out, gs_append]; simpa [gs_cons] using hown8⟩
        case measure => simp [intOf]; omega
    · obtain rfl : k = L.length := by omega
      go_wp2
      go_ret
      exact ⟨⟨some ⟨rg, 0, none⟩, rc, rfl, Rd.of_own hown⟩, by rw [hp]; exact hBr⟩
end Go.Proofs.Ytgnhkjfdicdcmaa
