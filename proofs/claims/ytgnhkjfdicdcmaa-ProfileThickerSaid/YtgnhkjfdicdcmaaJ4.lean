/- Contracts: joined profiles, as the reference has them. -/
import Derived.Test.YtgnhkjfdicdcmaaJ3
namespace Go.Proofs.Ytgnhkjfdicdcmaa
open Go.RowKit
set_option maxRecDepth 100000

set_option maxHeartbeats 4000000 in
theorem refJoined_c (base : Int) (A : Option Addr) (c : Nat) (l : List G) (w : World) (hr : Rd w A (gs l)) (hP : Pro base l) :
    Calls Try.prog 34 #[.agg #[.int .i64 base, .slice A l.length c]] w fun r w' => (∃ A' c', r = .returned (.agg #[.int .i64 base, .slice A' (joined l).length c']) ∧ Rd w' A' (gs (joined l))) ∧ Below w.heap.size w w' := by
  obtain ⟨i0, hi, iz0, iz1, iz2⟩ := info_parts Try.infoS
  have hn := hP.n1
  have hn0 := hP.n0
  have HG := hide (fun k h => joinN_good (l := l) hP.all (k := k) h)
  have HA := hide hP.all
  have HL := hide (fun k => joinN_length l k)
  clear hP
  obtain ⟨W0, hW0⟩ : ∃ W0, (w.alloc (.cells #[.int .i64 base, .slice A l.length c] 24)).alloc (.cells #[.int .i64 0, .slice none 0 0] 24) = W0 := ⟨_, rfl⟩
  obtain ⟨p, hp⟩ : ∃ p, w.heap.size = p := ⟨_, rfl⟩
  have hX0 : Blk W0 p 24 [.int .i64 base, .slice A l.length c] := by rw [← hW0, ← hp]; exact (two_new w _ _ [_, _] [_, _]).1
  have hR0 : Blk W0 (p + 1) 24 [.int .i64 0, .slice none 0 0] := by rw [← hW0, ← hp]; exact (two_new w _ _ [_, _] [_, _]).2.1
  have hB0 : Below p w W0 := by rw [← hW0, ← hp]; exact (two_new w _ _ [_, _] [_, _]).2.2
  have hs0 : W0.heap.size = p + 2 := by rw [← hW0, ← hp]; simp
  have hr0 := hr.bel (by rw [hp]; exact hB0)
  have HW := hide hW0
  clear hW0
  have c0 := hX0.cell 0; have c1 := hX0.cell 1; simp only [List.getElem?_cons_zero, List.getElem?_cons_succ] at c0 c1
  have z0 := hR0.lt
  go_enter Try.func34, Try.ntmps34
  go_upto_region 1 with fail
  rw [HW.out]
  go_upto_region 2 with fail
  obtain ⟨w1, hW1⟩ : ∃ w1, W0.alloc (.cells #[.int .i64 base, .slice none 0 0] 24) = w1 := ⟨_, rfl⟩
  have hb1 : Below W0.heap.size W0 w1 := by rw [← hW1]; exact alloc_bel _ _
  have hO1 : Blk w1 (p + 2) 24 [.int .i64 base, .slice none 0 0] := by rw [← hW1, ← hs0]; exact Blk.new W0 _ [_, _]
  have hs1 : w1.heap.size = p + 3 := by rw [← hW1]; simp [hs0]
  rw [hW1]
  clear hW1
  have hX1 := hX0.bel hb1
  have hr1 := hr0.bel hb1
  have hR1 := hR0.bel hb1
  have hB1 := bel_tr hB0 (by omega) hb1
  go_wp2
  clear c0 c1 hX0 hR0 hr0 z0 hb1 hs0
  obtain ⟨q, hq⟩ : ∃ q, q = p + 3 := ⟨_, rfl⟩
  go_loopw [4] (fun x wr => ∃ (k : Nat) (v : Value), k ≤ l.length ∧ x = .int .i64 k ∧ Below (p + 2) w1 wr ∧ q ≤ wr.heap.size ∧ Blk wr (p + 2) 24 [.int .i64 base, v] ∧ wr.ownsRow q 69 2 v (joinN l k).length (gs (joinN l k))) (fun x _ => l.length - (intOf x).toNat)
  case atStart => exact ⟨0, _, Nat.zero_le _, rfl, Below.refl _ _, by omega, hO1, World.ownsRow_nil _ _ _ _⟩
  case round =>
    obtain ⟨k, v, hk, rfl, hbr, hqr, hO, hown⟩ := hrel
    have hXr := hX1.below hbr (by omega)
    have hBr := hB1.trans (hbr.mono (show p ≤ p + 2 by omega))
    have hrr := hr.below hBr (by omega)
    have hLk := HL.out k
    have c0 := hXr.cell 0; have c1 := hXr.cell 1; simp only [List.getElem?_cons_zero, List.getElem?_cons_succ] at c0 c1
    have o0 := hO.cell 0; have o1 := hO.cell 1; simp only [List.getElem?_cons_zero, List.getElem?_cons_succ] at o0 o1
    have o2 := hO.frozen 1
    have z1 := hO.lt
    by_cases hlt : k < l.length
    · obtain ⟨b, off, rfl, hblt, hc0, hc1⟩ := hrr.g_at hlt
      have hs := HA.out _ (List.getElem_mem hlt)
      have hGk := HG.out k hk
      have HX : Hid (joinN l (k + 1) = joinS (joinN l k) (l[k].1, l[k].2)) := by show _ = _; rw [joinN, getD_at hlt]
      generalize l[k].1 = s1 at hc0 HX hs
      generalize l[k].2 = t1 at hc1 HX hs
      generalize joinN l k = J at hown hLk hGk HX
      go_upto_region 6 with fail
      obtain ⟨W3, hW3⟩ : ∃ W3, wr.alloc (.cells #[.int .i64 s1, .int .i64 t1] 69) = W3 := ⟨_, rfl⟩
      have hb3 : Below wr.heap.size wr W3 := by rw [← hW3]; exact alloc_bel _ _
      have hP3 : Blk W3 wr.heap.size 69 [.int .i64 s1, .int .i64 t1] := by rw [← hW3]; exact Blk.new wr _ [_, _]
      have hown3 := ownsRow_bel hown hb3
      have hO3 := hO.bel hb3
      have hbr3 : Below (p + 2) w1 W3 := hbr.trans (hb3.mono (by omega))
      rw [hW3]
      clear hW3 hc0 hc1 c0 c1 z1 o0 o1 o2 hown hXr hrr hO
      have g0 := hP3.cell 0; have g1 := hP3.cell 1; simp only [List.getElem?_cons_zero, List.getElem?_cons_succ] at g0 g1
      have o0 := hO3.cell 0; have o1 := hO3.cell 1; simp only [List.getElem?_cons_zero, List.getElem?_cons_succ] at o0 o1
      have o2 := hO3.frozen 1
      have z3 := hO3.lt
      have z4 := hP3.lt
      have hq3 : q ≤ W3.heap.size := by omega
      by_cases h0 : t1 = 0
      · have HF : Hid (joinN l (k + 1) = J) := by show _ = _; rw [HX.out, joinS_zero h0]
        subst h0
        clear HX
        go_wp2
        go_roundw
        case rel => exact ⟨k + 1, _, by omega, by go_num, hbr3, hq3, hO3, by rw [HF.out]; exact hown3⟩
        case measure => simp [intOf]; omega
      · have e0 : (t1 == 0) = false := by simpa using h0
        rcases Nat.eq_zero_or_pos J.length with hJ | hJ
        · have HF : Hid (joinN l (k + 1) = J ++ [(s1, t1)]) := by show _ = _; rw [HX.out, joinS_app h0 (.inl hJ)]
          rw [hJ] at hown3
          obtain ⟨LA, lc, rfl⟩ := ownsRow_slice hown3
          clear h0 HX
          go_upto_region 8 with fail
          go_quiet (fail)
          go_upto_region 10 with fail
          go_wp2_with (at_builtin; refine wpList_append_own _ rfl _ _ 22 rfl q 69 i0 _ 2 16 Try.underlying22 hi iz0 iz1 iz2 rfl (by decide) _ _ _ rfl (World.ownsRow.alloc (w := World.drewN W3 _) hown3 _) ⟨W3.heap.size, 0, none⟩ 1 1 [.int .i64 s1, .int .i64 t1] rfl rfl (World.news_of_block (heap_alloc_new (World.drewN W3 _) _)) (by simp [Value.oneCell']) (by unfold maxLen; omega) (by omega) (by simp; omega) ?_; intro v' w8 hown8 hg8 _; obtain ⟨g8, c8, rfl⟩ := ownsRow_succ hown8; have hO8 : Blk w8 (p + 2) 24 [.int .i64 base, .slice LA 0 lc] := (hg8.block (p + 2) (by simp; omega) (fun e => by have := (hown3.lt (p + 2) e.symm).1; omega)).trans ((hO3.drewN _).bel (alloc_bel _ _)); have n0 := hO8.cell 0; have n1 := hO8.cell 1; have n2 := hO8.frozen 1; simp only [List.getElem?_cons_zero, List.getElem?_cons_succ] at n0 n1; have n3 := hO8.lt)
          have hb8 : Below (p + 2) w1 w8 := (bel_alloc (below_drewN hbr3 _) (by show p + 2 ≤ W3.heap.size; omega) _).grown hg8 (by simp; omega) (fun j hj => by have := (hown3.lt j hj).1; omega)
          have hz8 : q ≤ w8.heap.size := by have := hg8.size; simp at this; omega
          go_roundw
          case rel => exact ⟨k + 1, _, by omega, by go_num, hb8.setCell (Nat.le_refl _) _, by simpa [World.setCell] using hz8, hO8.set_ 1 _, by rw [HF.out, gs_append]; refine own_set (i := 1) ?_ (by omega) _; simpa [hJ, gs_cons] using hown8⟩
          case measure => simp [intOf]; omega
        · obtain ⟨n, hJn⟩ : ∃ n, J.length = n + 1 := ⟨J.length - 1, by omega⟩
          obtain ⟨rg, rc, rfl, hrg, hrl⟩ := World.ownsRow.form hown3 hJ
          have hnJ : n < J.length := by omega
          have x0 := (hown3.cellAt (n * 2) (by omega)).trans (gs_at hnJ).1
          have x1 := (hown3.cellAt (n * 2 + 1) (by omega)).trans (gs_at hnJ).2
          have x2 := hown3.frozenAt (n * 2 + 1)
          have hxg := hGk _ (List.getElem_mem hnJ)
          have HS1 := hide (fun h => joinS_set (out := J) (s := (s1, t1)) h0 hJ h)
          have HS2 := hide (fun h => joinS_app (out := J) (s := (s1, t1)) h0 (.inr h))
          have HGS := hide (gs_set1 (l := J) hnJ)
          rw [show J.length - 1 = n by omega, getD_at hnJ] at HS2
          have HS1' : Hid (canJ (J[n].1, J[n].2) (s1, t1) = true → joinS J (s1, t1) = J.set n (J[n].1, J[n].2 + t1)) := by
            intro h
            have := HS1.out (by rw [show J.length - 1 = n by omega, getD_at hnJ]; exact h)
            rw [this]
            congr 2 <;> simp [show J.length - 1 = n by omega]
          have HS2' : Hid (canJ (J[n].1, J[n].2) (s1, t1) = false → joinS J (s1, t1) = J ++ [(s1, t1)]) := HS2.out
          have hJ12 : n + 1 ≤ k := by omega
          have hn1I : (n : Int) < (n : Int) + 1 := by omega
          clear h0 hGk HS1 HS2
          generalize J[n].1 = xa at x0 HS1' HS2' HGS hxg
          obtain ⟨xb, hxb⟩ : ∃ xb, J[n].2 = xb := ⟨_, rfl⟩
          rw [hxb] at x1 HS1' HS2' hxg
          have HXB := hide hxb
          clear hxb
          rw [hJn] at hown3 o1 hO3
          by_cases hxs : xa = s1
          · subst hxs
            by_cases hsum : xb + t1 ≤ 500
            · have HF : Hid (joinN l (k + 1) = J.set n (xa, xb + t1)) := by show _ = _; rw [HX.out]; exact HS1'.out (by unfold canJ; simp [hsum])
              clear HX HS1' HS2'
              go_upto_region 8 with fail
              go_quiet (fail)
              go_upto_region 9 with fail
              obtain ⟨W4, hW4⟩ : ∃ W4, World.drewN W3 nq = W4 := ⟨_, rfl⟩
              have hbw : Below W3.heap.size W3 W4 := by rw [← hW4]; exact below_drewN (Below.refl _ _) _
              have hown4 := ownsRow_bel hown3 hbw
              have hO4 := hO3.bel hbw
              have hP4 := hP3.bel hbw
              have hbr4 : Below (p + 2) w1 W4 := hbr3.trans (hbw.mono (by omega))
              have hz4 : q ≤ W4.heap.size := by have := hbw.size; omega
              rw [hW4]
              clear hW4 x0 x1 x2 g0 g1 o0 o1 o2 z3 z4
              have gj1 := (gs_at hnJ).2
              have y0 := (hown4.cellAt (n * 2 + 1) (by omega)).trans gj1
              rw [HXB.out] at y0
              have y1 := hown4.frozenAt (n * 2 + 1)
              have y2 : rg < W4.heap.size := by have := hbw.size; omega
              clear gj1
              have g0 := hP4.cell 0; have g1 := hP4.cell 1; simp only [List.getElem?_cons_zero, List.getElem?_cons_succ] at g0 g1
              have o0 := hO4.cell 0; have o1 := hO4.cell 1; simp only [List.getElem?_cons_zero, List.getElem?_cons_succ] at o0 o1
              have z3 := hO4.lt
              have z4 := hP4.lt
              refine wp_region_M (fun w' => (∀ b o, b < W4.heap.size → w'.cell? ⟨b, o, none⟩ = W4.cell? ⟨b, o, none⟩) ∧ Below W4.heap.size W4 w') 14 (by kernel_rfl) ?_
              have hSd : (∀ b o, b < W4.heap.size → W4.drew.cell? ⟨b, o, none⟩ = W4.cell? ⟨b, o, none⟩) ∧ Below W4.heap.size W4 W4.drew := kp (Below.refl _ _).drew
              refine AnyM.take (i := 0) (v := ?_) rfl (by kernel_rfl) (by kernel_rfl) (by kernel_rfl) (by kernel_rfl) (fun _ _ _ h => h) (Or.inl ⟨by rfl, ?_⟩) (by assumption) ?_
              rotate_left 1
              · (intro w hSw; obtain ⟨hk1, hk2⟩ := hSw; go_simp <;> with_reducible rfl)
              simp only [Act.put, List.getElem_toArray, List.getElem_cons_zero, List.setIfInBounds_toArray, List.set_cons_zero, List.set_cons_succ]
              refine AnyM.take (i := 1) (v := ?_) rfl (by kernel_rfl) (by kernel_rfl) (by kernel_rfl) (by kernel_rfl) (fun _ _ _ h => h) (Or.inl ⟨by rfl, ?_⟩) (by assumption) ?_
              rotate_left 1
              · (intro w hSw; obtain ⟨hk1, hk2⟩ := hSw; go_simp <;> with_reducible rfl)
              simp only [Act.put, List.getElem_toArray, List.getElem_cons_zero, List.getElem_cons_succ, List.setIfInBounds_toArray, List.set_cons_zero, List.set_cons_succ]
              refine AnyM.take (i := 2) (v := ?_) rfl (by kernel_rfl) (by kernel_rfl) (by kernel_rfl) (by kernel_rfl) (fun _ _ _ h => h) (Or.inl ⟨by rfl, ?_⟩) (by assumption) ?_
              rotate_left 1
              · (intro w hSw; obtain ⟨hk1, hk2⟩ := hSw; go_simp <;> with_reducible rfl)
              simp only [Act.put, List.getElem_toArray, List.getElem_cons_zero, List.getElem_cons_succ, List.setIfInBounds_toArray, List.set_cons_zero, List.set_cons_succ]
              refine AnyM.take (i := 3) (v := ?_) rfl (by kernel_rfl) (by kernel_rfl) (by kernel_rfl) (by kernel_rfl) (fun _ _ _ h => h) (Or.inl ⟨by rfl, ?_⟩) (by assumption) ?_
              rotate_left 1
              · (intro w hSw; obtain ⟨hk1, hk2⟩ := hSw; go_simp <;> with_reducible rfl)
              simp only [Act.put, List.getElem_toArray, List.getElem_cons_zero, List.getElem_cons_succ, List.setIfInBounds_toArray, List.set_cons_zero, List.set_cons_succ]
              refine AnyM.take (i := 4) (v := ?_) rfl (by kernel_rfl) (by kernel_rfl) (by kernel_rfl) (by kernel_rfl) (fun _ _ _ h => h) (Or.inl ⟨by rfl, ?_⟩) (by assumption) ?_
              rotate_left 1
              · (intro w hSw; obtain ⟨hk1, hk2⟩ := hSw; go_simp <;> with_reducible rfl)
              simp only [Act.put, List.getElem_toArray, List.getElem_cons_zero, List.getElem_cons_succ, List.setIfInBounds_toArray, List.set_cons_zero, List.set_cons_succ]
              refine AnyM.take (i := 5) (v := ?_) rfl (by kernel_rfl) (by kernel_rfl) (by kernel_rfl) (by kernel_rfl) (fun _ _ _ h => h) (Or.inl ⟨by rfl, ?_⟩) (by assumption) ?_
              rotate_left 1
              · (intro w hSw; obtain ⟨hk1, hk2⟩ := hSw; go_simp <;> with_reducible rfl)
              simp only [Act.put, List.getElem_toArray, List.getElem_cons_zero, List.getElem_cons_succ, List.setIfInBounds_toArray, List.set_cons_zero, List.set_cons_succ]
              refine AnyM.take (i := 6) (v := ?_) rfl (by kernel_rfl) (by kernel_rfl) (by kernel_rfl) (by kernel_rfl) (fun _ _ _ h => h) (Or.inl ⟨by rfl, ?_⟩) (by assumption) ?_
              rotate_left 1
              · (intro w hSw; obtain ⟨hk1, hk2⟩ := hSw; go_simp <;> with_reducible rfl)
              simp only [Act.put, List.getElem_toArray, List.getElem_cons_zero, List.getElem_cons_succ, List.setIfInBounds_toArray, List.set_cons_zero, List.set_cons_succ]
              refine AnyM.take (i := 7) (v := ?_) rfl (by kernel_rfl) (by kernel_rfl) (by kernel_rfl) (by kernel_rfl) (fun _ _ _ h => h) (Or.inl ⟨by rfl, ?_⟩) (by assumption) ?_
              rotate_left 1
              · (intro w hSw; obtain ⟨hk1, hk2⟩ := hSw; go_simp <;> with_reducible rfl)
              simp only [Act.put, List.getElem_toArray, List.getElem_cons_zero, List.getElem_cons_succ, List.setIfInBounds_toArray, List.set_cons_zero, List.set_cons_succ]
              refine AnyM.take (i := 8) (v := ?_) rfl (by kernel_rfl) (by kernel_rfl) (by kernel_rfl) (by kernel_rfl) (fun _ _ _ h => h) (Or.inl ⟨by rfl, ?_⟩) (by assumption) ?_
              rotate_left 1
              · (intro w hSw; obtain ⟨hk1, hk2⟩ := hSw; go_simp <;> with_reducible rfl)
              simp only [Act.put, List.getElem_toArray, List.getElem_cons_zero, List.getElem_cons_succ, List.setIfInBounds_toArray, List.set_cons_zero, List.set_cons_succ]
              refine AnyM.take (i := 9) (v := ?_) rfl (by kernel_rfl) (by kernel_rfl) (by kernel_rfl) (by kernel_rfl) (fun _ _ _ h => h) (Or.inl ⟨by rfl, ?_⟩) (by assumption) ?_
              rotate_left 1
              · (intro w hSw; obtain ⟨hk1, hk2⟩ := hSw; go_simp <;> with_reducible rfl)
              simp only [Act.put, List.getElem_toArray, List.getElem_cons_zero, List.getElem_cons_succ, List.setIfInBounds_toArray, List.set_cons_zero, List.set_cons_succ]
              refine AnyM.take (i := 10) (v := ?_) rfl (by kernel_rfl) (by kernel_rfl) (by kernel_rfl) (by kernel_rfl) (fun _ _ _ h => h) (Or.inl ⟨by rfl, ?_⟩) (by assumption) ?_
              rotate_left 1
              · (intro w hSw; obtain ⟨hk1, hk2⟩ := hSw; go_simp <;> with_reducible rfl)
              simp only [Act.put, List.getElem_toArray, List.getElem_cons_zero, List.getElem_cons_succ, List.setIfInBounds_toArray, List.set_cons_zero, List.set_cons_succ]
              refine AnyM.take (i := 11) (v := ?_) rfl (by kernel_rfl) (by kernel_rfl) (by kernel_rfl) (by kernel_rfl) (fun _ _ _ h => h) (Or.inl ⟨by rfl, ?_⟩) (by assumption) ?_
              rotate_left 1
              · (intro w hSw; obtain ⟨hk1, hk2⟩ := hSw; go_simp <;> with_reducible rfl)
              simp only [Act.put, List.getElem_toArray, List.getElem_cons_zero, List.getElem_cons_succ, List.setIfInBounds_toArray, List.set_cons_zero, List.set_cons_succ]
              refine AnyM.takeAny (i := 12) (v := ?_) rfl (by kernel_rfl) (by kernel_rfl) (by kernel_rfl) (by kernel_rfl) (fun _ _ _ h => h) (Or.inl ⟨by rfl, ?_⟩) (fun h => by first | assumption | exact Bool.noConfusion (h.symm.trans (by kernel_rfl : _ = true))) ?_
              rotate_left 1
              · (intro w _; go_simp <;> with_reducible rfl)
              simp only [Act.put, List.getElem_toArray, List.getElem_cons_zero, List.getElem_cons_succ, List.setIfInBounds_toArray, List.set_cons_zero, List.set_cons_succ]
              refine AnyM.take (i := 13) (v := ?_) rfl (by kernel_rfl) (by kernel_rfl) (by kernel_rfl) (by kernel_rfl) (fun _ _ _ h => h) (Or.inl ⟨by rfl, ?_⟩) (by assumption) ?_
              rotate_left 1
              · (intro w hSw; obtain ⟨hk1, hk2⟩ := hSw; go_simp <;> with_reducible rfl)
              simp only [Act.put, List.getElem_toArray, List.getElem_cons_zero, List.getElem_cons_succ, List.setIfInBounds_toArray, List.set_cons_zero, List.set_cons_succ]
              refine AnyM.next [14] (by kernel_rfl) (by simp) ?_
              refine NextM.cons rfl (fun K hK => ?_) NextM.nil
              go_simp
              refine hK _ _ (fun h => by simp at h) ?_
              clear hK K
              refine AnyM.done (by kernel_rfl) ?_ _
              go_wp2
              go_roundw
              case rel =>
                refine ⟨k + 1, _, by omega, by go_num, Below.setCell hbr4.drew (by show p + 2 ≤ rg; omega) _, by simpa [World.setCell] using hz4, (hO4.drewN 0).far (by show p + 2 ≠ rg; omega) _, ?_⟩
                rw [HF.out, ← HGS.out, List.length_set, hJn]
                exact (hown4.drew.stored (n * 2 + 1) _).1
              case measure => simp [intOf]; omega
            · have HF : Hid (joinN l (k + 1) = J ++ [(xa, t1)]) := by show _ = _; rw [HX.out]; exact HS2'.out (by unfold canJ; simp [hsum])
              have e5 : decide (xb + t1 ≤ 500) = false := decide_eq_false hsum
              clear HX HS1' HS2'
              go_upto_region 8 with fail
              go_quiet (fail)
              go_upto_region 10 with fail
              go_wp2_with (at_builtin; refine wpList_append_own _ rfl _ _ 22 rfl q 69 i0 _ 2 16 Try.underlying22 hi iz0 iz1 iz2 rfl (by decide) _ _ _ rfl (World.ownsRow.alloc (w := World.drewN W3 _) hown3 _) ⟨W3.heap.size, 0, none⟩ 1 1 [.int .i64 xa, .int .i64 t1] rfl rfl (World.news_of_block (heap_alloc_new (World.drewN W3 _) _)) (by simp [Value.oneCell']) (by unfold maxLen; omega) (by omega) (by simp; omega) ?_; intro v' w8 hown8 hg8 _; obtain ⟨g8, c8, rfl⟩ := ownsRow_succ hown8; have hO8 : Blk w8 (p + 2) 24 [.int .i64 base, .slice (some ⟨rg, 0, none⟩) (n + 1) rc] := (hg8.block (p + 2) (by simp; omega) (fun e => by have := (hown3.lt (p + 2) e.symm).1; omega)).trans ((hO3.drewN _).bel (alloc_bel _ _)); have n0 := hO8.cell 0; have n1 := hO8.cell 1; have n2 := hO8.frozen 1; simp only [List.getElem?_cons_zero, List.getElem?_cons_succ] at n0 n1; have n3 := hO8.lt)
              have hb8 : Below (p + 2) w1 w8 := (bel_alloc (below_drewN hbr3 _) (by show p + 2 ≤ W3.heap.size; omega) _).grown hg8 (by simp; omega) (fun j hj => by have := (hown3.lt j hj).1; omega)
              have hz8 : q ≤ w8.heap.size := by have := hg8.size; simp at this; omega
              go_roundw
              case rel => exact ⟨k + 1, _, by omega, by go_num, hb8.setCell (Nat.le_refl _) _, by simpa [World.setCell] using hz8, hO8.set_ 1 _, by rw [HF.out, gs_append]; refine own_set (i := 1) ?_ (by omega) _; simpa [hJn, gs_cons] using hown8⟩
              case measure => simp [intOf]; omega
          · have HF : Hid (joinN l (k + 1) = J ++ [(s1, t1)]) := by show _ = _; rw [HX.out]; exact HS2'.out (by unfold canJ; simp [hxs])
            have e5 : (xa == s1) = false := by simpa using hxs
            clear HX HS1' HS2' hxs
            go_upto_region 8 with fail
            go_quiet (fail)
            go_upto_region 10 with fail
            go_wp2_with (at_builtin; refine wpList_append_own _ rfl _ _ 22 rfl q 69 i0 _ 2 16 Try.underlying22 hi iz0 iz1 iz2 rfl (by decide) _ _ _ rfl (World.ownsRow.alloc (w := World.drewN W3 _) hown3 _) ⟨W3.heap.size, 0, none⟩ 1 1 [.int .i64 s1, .int .i64 t1] rfl rfl (World.news_of_block (heap_alloc_new (World.drewN W3 _) _)) (by simp [Value.oneCell']) (by unfold maxLen; omega) (by omega) (by simp; omega) ?_; intro v' w8 hown8 hg8 _; obtain ⟨g8, c8, rfl⟩ := ownsRow_succ hown8; have hO8 : Blk w8 (p + 2) 24 [.int .i64 base, .slice (some ⟨rg, 0, none⟩) (n + 1) rc] := (hg8.block (p + 2) (by simp; omega) (fun e => by have := (hown3.lt (p + 2) e.symm).1; omega)).trans ((hO3.drewN _).bel (alloc_bel _ _)); have n0 := hO8.cell 0; have n1 := hO8.cell 1; have n2 := hO8.frozen 1; simp only [List.getElem?_cons_zero, List.getElem?_cons_succ] at n0 n1; have n3 := hO8.lt)
            have hb8 : Below (p + 2) w1 w8 := (bel_alloc (below_drewN hbr3 _) (by show p + 2 ≤ W3.heap.size; omega) _).grown hg8 (by simp; omega) (fun j hj => by have := (hown3.lt j hj).1; omega)
            have hz8 : q ≤ w8.heap.size := by have := hg8.size; simp at this; omega
            go_roundw
            case rel => exact ⟨k + 1, _, by omega, by go_num, hb8.setCell (Nat.le_refl _) _, by simpa [World.setCell] using hz8, hO8.set_ 1 _, by rw [HF.out, gs_append]; refine own_set (i := 1) ?_ (by omega) _; simpa [hJn, gs_cons] using hown8⟩
            case measure => simp [intOf]; omega
    · obtain rfl : k = l.length := by omega
      have hRr := hR1.below hbr (by omega)
      have HJ : Hid (joined l = if (joinN l l.length).length = 0 then [l.getD 0 G0] else joinN l l.length) := rfl
      generalize joinN l l.length = N at hown hLk HJ
      have r0 := hRr.frozen 0
      have r1 := hRr.frozen 1
      have r4 := hRr.lt
      have e0 := hRr.cell 0; have e1 := hRr.cell 1; simp only [List.getElem?_cons_zero, List.getElem?_cons_succ] at e0 e1
      rcases Nat.eq_zero_or_pos N.length with hN | hN
      · have HF : Hid (joined l = [(l[0].1, l[0].2)]) := by show _ = _; rw [HJ.out, if_pos hN, getD_at (show 0 < l.length by omega)]
        have hN0 : N = [] := List.eq_nil_of_length_eq_zero hN
        subst hN0
        clear HJ hN
        obtain ⟨LA, lc, rfl⟩ := ownsRow_slice hown
        obtain ⟨b, off, rfl, hblt, hc0, hc1⟩ := hr.g_at (show 0 < l.length by omega)
        generalize l[0].1 = s1 at hc0 HF
        generalize l[0].2 = t1 at hc1 HF
        simp only [Nat.zero_mul, Nat.add_zero] at hc0 hc1
        have h0l : 0 < l.length := by omega
        have hbp : b < p := by omega
        replace hc0 := (hBr.cell (p := ⟨b, off, none⟩) hbp).trans hc0
        replace hc1 := (hBr.cell (p := ⟨b, off + 1, none⟩) hbp).trans hc1
        go_upto_region 12 with fail
        refine wp_region_M (fun w' => w'.cell? ⟨p, 1, none⟩ = some (.slice (some ⟨b, off, none⟩) l.length c) ∧ w'.cell? ⟨p + 2, 1, none⟩ = some (.slice LA 0 lc) ∧ w'.cell? ⟨b, off, none⟩ = some (.int .i64 s1) ∧ w'.cell? ⟨b, off + 1, none⟩ = some (.int .i64 t1)) 9 (by kernel_rfl) ?_
        have hSd : wr.drew.cell? ⟨p, 1, none⟩ = some (.slice (some ⟨b, off, none⟩) l.length c) ∧ wr.drew.cell? ⟨p + 2, 1, none⟩ = some (.slice LA 0 lc) ∧ wr.drew.cell? ⟨b, off, none⟩ = some (.int .i64 s1) ∧ wr.drew.cell? ⟨b, off + 1, none⟩ = some (.int .i64 t1) := ⟨c1, o1, hc0, hc1⟩
        refine AnyM.take (i := 0) (v := ?_) rfl (by kernel_rfl) (by kernel_rfl) (by kernel_rfl) (by kernel_rfl) (fun _ _ _ h => h) (Or.inl ⟨by rfl, ?_⟩) (by assumption) ?_
        rotate_left 1
        · (intro w hSw; obtain ⟨hk1, hk2, hk3, hk4⟩ := hSw; go_simp <;> with_reducible rfl)
        simp only [Act.put, List.getElem_toArray, List.getElem_cons_zero, List.setIfInBounds_toArray, List.set_cons_zero, List.set_cons_succ]
        refine AnyM.take (i := 1) (v := ?_) rfl (by kernel_rfl) (by kernel_rfl) (by kernel_rfl) (by kernel_rfl) (fun _ _ _ h => h) (Or.inl ⟨by rfl, ?_⟩) (by assumption) ?_
        rotate_left 1
        · (intro w hSw; obtain ⟨hk1, hk2, hk3, hk4⟩ := hSw; go_simp <;> with_reducible rfl)
        simp only [Act.put, List.getElem_toArray, List.getElem_cons_zero, List.getElem_cons_succ, List.setIfInBounds_toArray, List.set_cons_zero, List.set_cons_succ]
        refine AnyM.take (i := 2) (v := ?_) rfl (by kernel_rfl) (by kernel_rfl) (by kernel_rfl) (by kernel_rfl) (fun _ _ _ h => h) (Or.inl ⟨by rfl, ?_⟩) (by assumption) ?_
        rotate_left 1
        · (intro w hSw; obtain ⟨hk1, hk2, hk3, hk4⟩ := hSw; go_simp <;> with_reducible rfl)
        simp only [Act.put, List.getElem_toArray, List.getElem_cons_zero, List.getElem_cons_succ, List.setIfInBounds_toArray, List.set_cons_zero, List.set_cons_succ]
        refine AnyM.take (i := 3) (v := ?_) rfl (by kernel_rfl) (by kernel_rfl) (by kernel_rfl) (by kernel_rfl) (fun _ _ _ h => h) (Or.inl ⟨by rfl, ?_⟩) (by assumption) ?_
        rotate_left 1
        · (intro w hSw; obtain ⟨hk1, hk2, hk3, hk4⟩ := hSw; go_simp <;> with_reducible rfl)
        simp only [Act.put, List.getElem_toArray, List.getElem_cons_zero, List.getElem_cons_succ, List.setIfInBounds_toArray, List.set_cons_zero, List.set_cons_succ]
        refine AnyM.take (i := 4) (v := ?_) rfl (by kernel_rfl) (by kernel_rfl) (by kernel_rfl) (by kernel_rfl) (fun _ _ _ h => h) (Or.inl ⟨by rfl, ?_⟩) (by assumption) ?_
        rotate_left 1
        · (intro w hSw; obtain ⟨hk1, hk2, hk3, hk4⟩ := hSw; go_simp <;> with_reducible rfl)
        simp only [Act.put, List.getElem_toArray, List.getElem_cons_zero, List.getElem_cons_succ, List.setIfInBounds_toArray, List.set_cons_zero, List.set_cons_succ]
        refine AnyM.take (i := 5) (v := ?_) rfl (by kernel_rfl) (by kernel_rfl) (by kernel_rfl) (by kernel_rfl) (fun _ _ _ h => h) (Or.inl ⟨by rfl, ?_⟩) (by assumption) ?_
        rotate_left 1
        · (intro w hSw; obtain ⟨hk1, hk2, hk3, hk4⟩ := hSw; go_simp <;> with_reducible rfl)
        simp only [Act.put, List.getElem_toArray, List.getElem_cons_zero, List.getElem_cons_succ, List.setIfInBounds_toArray, List.set_cons_zero, List.set_cons_succ]
        refine AnyM.next [6] (by kernel_rfl) (by simp) ?_
        refine NextM.cons rfl (fun K hK => ?_) NextM.nil
        go_simp
        obtain ⟨W5, hW5⟩ : ∃ W5, (wr.alloc (.cells #[.int .i64 s1, .int .i64 t1] 69)).drew = W5 := ⟨_, rfl⟩
        have hb5 : Below wr.heap.size wr W5 := by rw [← hW5]; exact (alloc_bel _ _).drew
        have hrd5 : Rd W5 (some ⟨wr.heap.size, 0, none⟩) (gs [(s1, t1)]) := by rw [← hW5]; exact (Blk.new wr 69 [.int .i64 s1, .int .i64 t1]).rd (List.prefix_refl _)
        have hown5 := ownsRow_bel hown hb5
        have hO5 := hO.bel hb5
        have hX5 := hXr.bel hb5
        have hR5 := hRr.bel hb5
        have hs5 : q ≤ W5.heap.size := by have := hb5.size; omega
        have hc5 := (hb5.cell (p := ⟨b, off, none⟩) (show b < wr.heap.size by omega)).trans hc0
        have hd5 := (hb5.cell (p := ⟨b, off + 1, none⟩) (show b < wr.heap.size by omega)).trans hc1
        rw [hW5]
        clear hW5 hSd
        try dsimp only
        refine hK _ _ (fun _ => ⟨hX5.cell 1, hO5.cell 1, hc5, hd5⟩) ?_
        clear hK K
        refine AnyM.next [7] (by kernel_rfl) (by simp) ?_
        refine NextM.cons rfl (fun K hK => ?_) NextM.nil
        refine step_append_rd _ (by rfl) _ _ _ (by rfl) q 69 i0 _ 2 16 Try.underlying22 hi iz0 iz1 iz2 rfl (by decide) (.slice LA 0 lc) 0 (gs []) (by rfl) hown5 (some ⟨wr.heap.size, 0, none⟩) 1 1 (gs [(s1, t1)]) (by rfl) (by simp) hrd5 (gs_one _) (by unfold maxLen; omega) (by omega) hs5 ?_
        intro v6 W6 hown6 hg6
        obtain ⟨A6, c6, rfl⟩ := ownsRow_slice hown6
        have hlt5 := hown5.lt
        have hX6 := (hg6.block p hX5.lt (fun e => by have := (hlt5 p e.symm).1; omega)).trans hX5
        have hO6 := (hg6.block (p + 2) hO5.lt (fun e => by have := (hlt5 (p + 2) e.symm).1; omega)).trans hO5
        have hR6 := (hg6.block (p + 1) hR5.lt (fun e => by have := (hlt5 (p + 1) e.symm).1; omega)).trans hR5
        have hb6' : b < W5.heap.size := by have := hb5.size; omega
        have hc6 : W6.cell? ⟨b, off, none⟩ = some (.int .i64 s1) := (World.cell?_of_block (hg6.block b hb6' (fun e => by have := (hlt5 b e.symm).1; omega))).trans hc5
        have hd6 : W6.cell? ⟨b, off + 1, none⟩ = some (.int .i64 t1) := (World.cell?_of_block (hg6.block b hb6' (fun e => by have := (hlt5 b e.symm).1; omega))).trans hd5
        have hX6 : Blk W6 p 24 [.int .i64 base, .slice (some ⟨b, off, none⟩) l.length c] := hX6
        have hO6 : Blk W6 (p + 2) 24 [.int .i64 base, .slice LA 0 lc] := hO6
        have hR6 : Blk W6 (p + 1) 24 [.int .i64 0, .slice none 0 0] := hR6
        have hB6 : Below p w W6 := (hBr.trans (hb5.mono (by omega))).grown hg6 (by have := hb5.size; omega) (fun j hj => by have := (hlt5 j hj).1; omega)
        simp only [Act.put, List.getElem_toArray, List.getElem_cons_zero, List.getElem_cons_succ, List.setIfInBounds_toArray, List.set_cons_zero, List.set_cons_succ]
        refine hK _ _ (fun _ => ⟨hX6.cell 1, hO6.cell 1, hc6, hd6⟩) ?_
        clear hK K
        refine AnyM.next [8] (by kernel_rfl) (by simp) ?_
        refine NextM.cons rfl (fun K hK => ?_) NextM.nil
        go_simp
        refine hK _ _ (fun _ => ⟨hX6.cell 1, hO6.cell 1, hc6, hd6⟩) ?_
        clear hK K
        have m0 := hO6.cell 1
        have m1 := hO6.frozen 1
        have m2 := hO6.lt
        simp only [List.getElem?_cons_zero, List.getElem?_cons_succ] at m0
        refine AnyM.next [9] (by kernel_rfl) (by simp) ?_
        refine NextM.cons rfl (fun K hK => ?_) NextM.nil
        go_simp
        refine hK _ _ (fun h => by simp at h) ?_
        clear hK K
        refine AnyM.done (by kernel_rfl) ?_ _
        obtain ⟨W7, hW7⟩ : ∃ W7, W6.setCell ⟨p + 2, 1, none⟩ (.slice A6 1 c6) = W7 := ⟨_, rfl⟩
        have hO7 : Blk W7 (p + 2) 24 [.int .i64 base, .slice A6 1 c6] := by rw [← hW7]; exact hO6.set_ 1 _
        have hR7 : Blk W7 (p + 1) 24 [.int .i64 0, .slice none 0 0] := by rw [← hW7]; exact hR6.far (by show p + 1 ≠ p + 2; omega) _
        have hown7 : W7.ownsRow q 69 2 (.slice A6 1 c6) 1 (gs [(s1, t1)]) := by rw [← hW7]; exact own_far (p := ⟨p + 2, 1, none⟩) hown6 (by show p + 2 < q; omega) _
        have hB7 : Below p w W7 := by rw [← hW7]; exact hB6.setCell (by show p ≤ p + 2; omega) _
        rw [hW7]
        clear hW7 m0 m1 m2 o0 o1 o2 e0 e1 r0 r1 r4
        have o0 := hO7.cell 0; have o1 := hO7.cell 1; simp only [List.getElem?_cons_zero, List.getElem?_cons_succ] at o0 o1
        have e0 := hR7.cell 0; have e1 := hR7.cell 1; simp only [List.getElem?_cons_zero, List.getElem?_cons_succ] at e0 e1
        have r0 := hR7.frozen 0
        have r1 := hR7.frozen 1
        have r4 := hR7.lt
        have r5 := hO7.lt
        go_wp2
        have hBE : Below p w ((W7.setCell ⟨p + 1, 0, none⟩ (.int .i64 base)).setCell ⟨p + 1, 1, none⟩ (.slice A6 1 c6)) := (hB7.setCell (by show p ≤ p + 1; omega) _).setCell (by show p ≤ p + 1; omega) _
        have hRE := (hR7.set_ 0 (.int .i64 base)).set_ 1 (.slice A6 1 c6)
        have hrE := Rd.of_own (own_far (own_far hown7 (p := ⟨p + 1, 0, none⟩) (by show p + 1 < q; omega) (.int .i64 base)) (p := ⟨p + 1, 1, none⟩) (by show p + 1 < q; omega) (.slice A6 1 c6))
        generalize (W7.setCell ⟨p + 1, 0, none⟩ (.int .i64 base)).setCell ⟨p + 1, 1, none⟩ (.slice A6 1 c6) = WE at hBE hRE hrE ⊢
        have v0 := hRE.cell 0
        have v1 := hRE.cell 1
        simp only [List.set_cons_zero, List.set_cons_succ, List.getElem?_cons_zero, List.getElem?_cons_succ] at v0 v1
        exact bodyPost_ret (v := .agg #[.int .i64 base, .slice A6 1 c6]) (by simp [results, Try.results34, go_sem, v0, v1]; try rfl) rfl ⟨⟨A6, c6, by rw [HF.out]; rfl, by rw [HF.out]; exact hrE⟩, by rw [hp]; exact hBE⟩
      · have HF : Hid (joined l = N) := by show _ = _; rw [HJ.out, if_neg (by omega)]
        clear HJ
        obtain ⟨rg, rc, rfl, hrg, hrl⟩ := World.ownsRow.form hown hN
        have eN : ((N.length : Int) == 0) = false := by simp; rintro rfl; simp at hN
        go_wp2
        have hBE : Below p w ((wr.setCell ⟨p + 1, 0, none⟩ (.int .i64 base)).setCell ⟨p + 1, 1, none⟩ (.slice (some ⟨rg, 0, none⟩) N.length rc)) := (hBr.setCell (by show p ≤ p + 1; omega) _).setCell (by show p ≤ p + 1; omega) _
        have hRE := (hRr.set_ 0 (.int .i64 base)).set_ 1 (.slice (some ⟨rg, 0, none⟩) N.length rc)
        have hrE := Rd.of_own (own_far (own_far hown (p := ⟨p + 1, 0, none⟩) (by show p + 1 < q; omega) (.int .i64 base)) (p := ⟨p + 1, 1, none⟩) (by show p + 1 < q; omega) (.slice (some ⟨rg, 0, none⟩) N.length rc))
        generalize (wr.setCell ⟨p + 1, 0, none⟩ (.int .i64 base)).setCell ⟨p + 1, 1, none⟩ (.slice (some ⟨rg, 0, none⟩) N.length rc) = WE at hBE hRE hrE ⊢
        have v0 := hRE.cell 0
        have v1 := hRE.cell 1
        simp only [List.set_cons_zero, List.set_cons_succ, List.getElem?_cons_zero, List.getElem?_cons_succ] at v0 v1
        exact bodyPost_ret (v := .agg #[.int .i64 base, .slice (some ⟨rg, 0, none⟩) N.length rc]) (by simp [results, Try.results34, go_sem, v0, v1]; try rfl) rfl ⟨⟨some ⟨rg, 0, none⟩, rc, by rw [HF.out], by rw [HF.out]; exact hrE⟩, by rw [hp]; exact hBE⟩
end Go.Proofs.Ytgnhkjfdicdcmaa
