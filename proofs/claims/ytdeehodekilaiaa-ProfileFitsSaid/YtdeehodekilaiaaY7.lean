/- Law: fits. -/
import Derived.Test.YtdeehodekilaiaaY6
import Derived.Test.YtdeehodekilaiaaY0b
import Derived.Test.YtdeehodekilaiaaJ1
set_option linter.unusedSimpArgs false
set_option linter.unusedVariables false
namespace Go.Proofs.Ytdeehodekilaiaa
open Go.RowKit
set_option maxRecDepth 100000

set_option maxHeartbeats 8000000 in
theorem fitsLaw_c (base after width : Int) (A B : Option Addr) (c d : Nat) (l : List G) (pts : List PT) (w : World) (hr : Rd w A (gs l)) (hs : Rd w B (ps pts)) (hmx : l.length ≤ maxLen) (hpx : pts.length ≤ maxLen) :
    Calls Try.prog 5 #[.agg #[.int .i64 base, .slice A l.length c], .agg #[.slice B pts.length d, .int .i64 after, .int .i64 width]] w fun r w' => r = .returned (.bool true) ∧ Below w.heap.size w w' := by
  obtain ⟨W0, hW0⟩ : ∃ W0, (w.alloc (.cells #[.int .i64 base, .slice A l.length c] 24)).alloc (.cells #[.slice B pts.length d, .int .i64 after, .int .i64 width] 30) = W0 := ⟨_, rfl⟩
  obtain ⟨p, hp⟩ : ∃ p, w.heap.size = p := ⟨_, rfl⟩
  have hX0 : Blk W0 p 24 [.int .i64 base, .slice A l.length c] := by rw [← hW0, ← hp]; exact (two_new w _ _ [_, _] [_, _, _]).1
  have hY0 : Blk W0 (p + 1) 30 [.slice B pts.length d, .int .i64 after, .int .i64 width] := by rw [← hW0, ← hp]; exact (two_new w _ _ [_, _] [_, _, _]).2.1
  have hB0 : Below p w W0 := by rw [← hW0, ← hp]; exact (two_new w _ _ [_, _] [_, _, _]).2.2
  have hr0 := hr.bel (by rw [hp]; exact hB0)
  have hs0 := hs.bel (by rw [hp]; exact hB0)
  have HW := hide hW0
  clear hW0 hr hs
  have c0 := hX0.cell 0; have c1 := hX0.cell 1; simp only [List.getElem?_cons_zero, List.getElem?_cons_succ] at c0 c1
  have y0 := hY0.cell 0; have y1 := hY0.cell 1; have y2 := hY0.cell 2; simp only [List.getElem?_cons_zero, List.getElem?_cons_succ] at y0 y1 y2
  have z0 := hY0.lt
  have z1 := hX0.lt
  have HFew := hide (fun W => few_c base A c l W hmx)
  have HFP := hide (fun W => fewPoints_c B d after width pts W hpx)
  by_cases h14 : l.length ≤ 14
  · rw [decide_eq_true h14] at HFew
    have hl : l.length ≤ 1000 := by omega
    clear hmx h14
    by_cases h10 : pts.length ≤ 10
    · rw [decide_eq_true h10] at HFP
      have hpl : pts.length ≤ 1000 := by omega
      clear hpx h10
      have HCP := hide (fun W h => copy_c base A c l W h hl)
      have HCT := hide (fun W h => copyTrace_c B d after width pts W h hpl)
      have HFA := hide (fun A c W h => fittedAll_c A c after width pts W h hpl)
      have HAG := hide (fun A B c d W h h' => agreesWith_c base after width A B c d l pts W h h' hl hpl)
      have HTE := hide (fun W h => traceErr_c B d after width pts W h hpl)
      have HPE := hide (fun W h => refErr_c base A c l W h hl)
      obtain ⟨⟨bx, Lx, ix, ex⟩, hFA⟩ : ∃ R, fitAll pts after width = R := ⟨_, rfl⟩
      rw [hFA] at HFA
      dsimp only at HFA
      have HFAe := hide hFA
      clear hFA
      obtain ⟨GL, hGL⟩ : ∃ GL, agL base l pts after width = GL := ⟨_, rfl⟩
      obtain ⟨GE, hGE⟩ : ∃ GE, agE base l pts after width = GE := ⟨_, rfl⟩
      rw [hGL, hGE] at HAG
      have HGL := hide hGL
      have HGE := hide hGE
      clear hGL hGE
      go_enter Try.func5, Try.ntmps5
      go_upto_region 1 with fail
      rw [HW.out]
      go_upto_region 5 with (first
        | (go_at_call 6; refine (awake_c _).mono ?_; rintro e w1 ⟨rfl, hb1⟩; have hX1 := hX0.bel hb1; have hY1 := hY0.bel hb1; have k0 := hX1.cell 0; have k1 := hX1.cell 1; simp only [List.getElem?_cons_zero, List.getElem?_cons_succ] at k0 k1; have n0 := hY1.cell 0; have n1 := hY1.cell 1; have n2 := hY1.cell 2; simp only [List.getElem?_cons_zero, List.getElem?_cons_succ] at n0 n1 n2; have zk := hX1.lt; have zn := hY1.lt)
        | (go_at_call 7; refine (HFew.out _).mono ?_; rintro e w2 ⟨rfl, hb2⟩; have hY2 := hY1.bel hb2; have i0 := hY2.cell 0; have i1 := hY2.cell 1; have i2 := hY2.cell 2; simp only [List.getElem?_cons_zero, List.getElem?_cons_succ] at i0 i1 i2; have zi := hY2.lt)
        | (go_at_call 22; refine (HFP.out _).mono ?_; rintro e w3 ⟨rfl, hb3⟩))
      have hb03 := tr (tr hb1 hb2 hb1.size) hb3 (by have := hb1.size; have := hb2.size; omega)
      have hX3 := hX0.bel hb03
      have hY3 := hY0.bel hb03
      have hr3 := hr0.bel hb03
      have hs3 := hs0.bel hb03
      have hB3 := bel_tr hB0 (by omega) hb03
      have hz3 := hb03.size
      clear c0 c1 y0 y1 y2 z0 z1 k0 k1 n0 n1 n2 zk zn i0 i1 i2 zi hX1 hY1 hY2 hb1 hb2 hb3 hb03 hX0 hY0 hr0 hs0 HFew HFP
      have y0 := hY3.cell 0; have y1 := hY3.cell 1; have y2 := hY3.cell 2; simp only [List.getElem?_cons_zero, List.getElem?_cons_succ] at y0 y1 y2
      have z0 := hY3.lt
      go_upto_region 6 with (first
        | (go_at_call 20; refine (HCT.out _ hs3).mono ?_; rintro e w4 ⟨⟨B4, q4, rfl, hs4⟩, hb4⟩)
        | (go_at_call 23; refine (HFA.out _ _ _ hs4).mono ?_; rintro e w5 ⟨⟨Ax, cx, rfl, hf5⟩, hb5⟩))
      obtain ⟨q, hq⟩ : ∃ q, w5.heap.size = q := ⟨_, rfl⟩
      obtain ⟨W6, hW6⟩ : ∃ W, w5.alloc (.cells #[.int .i64 bx, .slice Ax Lx.length cx] 24) = W := ⟨_, rfl⟩
      have hb36 : Below w3.heap.size w3 W6 := by rw [← hW6]; exact bel_alloc (tr hb4 hb5 hb4.size) (by have := hb4.size; have := hb5.size; omega) _
      have hI : FitI base after width A B c d l pts bx Lx w p q Ax cx W6 := ⟨hX3.bel hb36, hY3.bel hb36, by rw [← hW6, ← hq]; exact Blk.new w5 _ [_, _], hr3.bel hb36, hs3.bel hb36, by rw [← hW6]; exact hf5.alloc _, bel_tr hB3 (by omega) hb36⟩
      rw [hW6, hq]
      clear hW6 hb36 hb4 hb5 hs4 hf5 hX3 hY3 hr3 hs3 hB3 hz3 hB0 y0 y1 y2 z0 hq HFA
      have hx := hI.x
      have hy := hI.y
      have c0 := hx.cell 0; have c1 := hx.cell 1; simp only [List.getElem?_cons_zero, List.getElem?_cons_succ] at c0 c1
      have y0 := hy.cell 0; have y1 := hy.cell 1; have y2 := hy.cell 2; simp only [List.getElem?_cons_zero, List.getElem?_cons_succ] at y0 y1 y2
      have z0 := hx.lt
      have z1 := hy.lt
      go_cut [8, 9] from 35 to 41 (fun t u wx => ∃ (A' : Option Addr) (c' : Nat), t = .slice A' GL.length c' ∧ u = .int .i64 GE ∧ Rd wx A' (ints GL) ∧ Below W6.heap.size W6 wx)
      case first =>
        refine wp_region_held (S := fun w' => (∀ b o, b < W6.heap.size → w'.cell? ⟨b, o, none⟩ = W6.cell? ⟨b, o, none⟩) ∧ Below W6.heap.size W6 w') (by kernel_rfl) ?_
        have hSd : (∀ b o, b < W6.heap.size → W6.drew.cell? ⟨b, o, none⟩ = W6.cell? ⟨b, o, none⟩) ∧ Below W6.heap.size W6 W6.drew := kp (Below.refl _ _).drew
        change wpAnyH _ _ _ _ _ _ _ _ W6.drew
        refine wpAnyH_take (i := 0) (v := ?_) rfl (by kernel_rfl) (by kernel_rfl) (by kernel_rfl) (fun _ _ _ h => h) (Or.inl ⟨by kernel_rfl, ?_⟩) (by assumption) ?_
        rotate_left 1
        · (intro w hSw; obtain ⟨hk1, hk2⟩ := hSw; go_simp <;> with_reducible rfl)
        simp only [Act.put, List.getElem_toArray, List.getElem_cons_zero, List.setIfInBounds_toArray, List.set_cons_zero, List.set_cons_succ]
        refine wpAnyH_take (i := 2) (v := ?_) rfl (by kernel_rfl) (by kernel_rfl) (by kernel_rfl) (fun _ _ _ h => h) (Or.inl ⟨by kernel_rfl, ?_⟩) (by assumption) ?_
        rotate_left 1
        · (intro w hSw; obtain ⟨hk1, hk2⟩ := hSw; go_simp <;> with_reducible rfl)
        simp only [Act.put, List.getElem_toArray, List.getElem_cons_zero, List.getElem_cons_succ, List.setIfInBounds_toArray, List.set_cons_zero, List.set_cons_succ]
        refine nextH (i := 1) (by kernel_rfl) rfl (fun K hK => ?_)
        go_simp
        refine (HCP.out _ hI.r.drew).mono ?_
        rintro e w1 ⟨⟨A1, c1', rfl, hr1⟩, hb1⟩
        have hb1' := bel_tr hSd.2 hSd.2.size hb1
        try dsimp only
        refine hK _ _ (kp hb1') ?_
        clear hK K hSd
        refine nextH (i := 3) (by kernel_rfl) rfl (fun K hK => ?_)
        go_simp
        refine (HCT.out _ (hI.s.bel hb1')).mono ?_
        rintro e w2 ⟨⟨A2, c2', rfl, hr2⟩, hb2⟩
        have hb2' := bel_tr hb1' hb1'.size hb2
        try dsimp only
        refine hK _ _ (kp hb2') ?_
        clear hK K
        refine nextH (i := 4) (by kernel_rfl) rfl (fun K hK => ?_)
        go_simp
        refine (HAG.out _ _ _ _ _ (hr1.bel hb2) hr2).mono ?_
        rintro e w3' ⟨⟨A3, c3', rfl, hr3⟩, hb3⟩
        have hb3' := bel_tr hb2' hb2'.size hb3
        have hSd := kp hb3'
        try dsimp only
        refine hK _ _ hSd ?_
        clear hK K
        refine wpAnyH_take (i := 5) (v := ?_) rfl (by kernel_rfl) (by kernel_rfl) (by kernel_rfl) (fun _ _ _ h => h) (Or.inl ⟨by kernel_rfl, ?_⟩) (by assumption) ?_
        rotate_left 1
        · (intro w hSw; obtain ⟨hk1, hk2⟩ := hSw; go_simp <;> with_reducible rfl)
        simp only [Act.put, List.getElem_toArray, List.getElem_cons_zero, List.getElem_cons_succ, List.setIfInBounds_toArray, List.set_cons_zero, List.set_cons_succ]
        refine wpAnyH_take (i := 6) (v := ?_) rfl (by kernel_rfl) (by kernel_rfl) (by kernel_rfl) (fun _ _ _ h => h) (Or.inl ⟨by kernel_rfl, ?_⟩) (by assumption) ?_
        rotate_left 1
        · (intro w hSw; obtain ⟨hk1, hk2⟩ := hSw; go_simp <;> with_reducible rfl)
        simp only [Act.put, List.getElem_toArray, List.getElem_cons_zero, List.getElem_cons_succ, List.setIfInBounds_toArray, List.set_cons_zero, List.set_cons_succ]
        refine wpAnyH_take (i := 7) (v := ?_) rfl (by kernel_rfl) (by kernel_rfl) (by kernel_rfl) (fun _ _ _ h => h) (Or.inl ⟨by kernel_rfl, ?_⟩) (by assumption) ?_
        rotate_left 1
        · (intro w hSw; obtain ⟨hk1, hk2⟩ := hSw; go_simp <;> with_reducible rfl)
        simp only [Act.put, List.getElem_toArray, List.getElem_cons_zero, List.getElem_cons_succ, List.setIfInBounds_toArray, List.set_cons_zero, List.set_cons_succ]
        refine nextH (i := 8) (by kernel_rfl) rfl (fun K hK => ?_)
        go_simp
        refine hK _ _ hSd ?_
        clear hK K
        refine nextH (i := 9) (by kernel_rfl) rfl (fun K hK => ?_)
        go_simp
        refine hK _ _ hSd ?_
        clear hK K
        refine wpAnyH_done (by kernel_rfl) ?_ _
        go_wp2
        go_meet
        exact ⟨A3, c3', rfl, rfl, hr3, hb3'⟩
      obtain ⟨GA, gc, rfl, rfl, hG, hbc⟩ := hcut
      obtain ⟨W7, rfl⟩ : ∃ W7 : World, W7 = wc := ⟨_, rfl⟩
      have hI7 := hI.next hbc
      clear c0 c1 y0 y1 y2 z0 z1 hx hy hI hbc HAG HCP HCT
      have hx := hI7.x
      have hy := hI7.y
      have c0 := hx.cell 0; have c1 := hx.cell 1; simp only [List.getElem?_cons_zero, List.getElem?_cons_succ] at c0 c1
      have y0 := hy.cell 0; have y1 := hy.cell 1; have y2 := hy.cell 2; simp only [List.getElem?_cons_zero, List.getElem?_cons_succ] at y0 y1 y2
      have z0 := hx.lt
      have z1 := hy.lt
      obtain ⟨te, hte⟩ : ∃ te, (trE pts after width).2 = te := ⟨_, rfl⟩
      obtain ⟨pe, hpe⟩ : ∃ pe, (proE base l).2 = pe := ⟨_, rfl⟩
      rw [hte] at HTE
      rw [hpe] at HPE
      have HTEe := hide hte
      have HPEe := hide hpe
      clear hte hpe
      go_upto_region 7 with fail
      go_cut [10, 11] from 42 to 45 (fun t u wx => t = .int .i64 te ∧ u = .int .i64 pe ∧ Below W7.heap.size W7 wx)
      case first =>
        refine wp_region_held (S := fun w' => (∀ b o, b < W7.heap.size → w'.cell? ⟨b, o, none⟩ = W7.cell? ⟨b, o, none⟩) ∧ Below W7.heap.size W7 w') (by kernel_rfl) ?_
        have hSd : (∀ b o, b < W7.heap.size → W7.drew.cell? ⟨b, o, none⟩ = W7.cell? ⟨b, o, none⟩) ∧ Below W7.heap.size W7 W7.drew := kp (Below.refl _ _).drew
        change wpAnyH _ _ _ _ _ _ _ _ W7.drew
        refine wpAnyH_take (i := 0) (v := ?_) rfl (by kernel_rfl) (by kernel_rfl) (by kernel_rfl) (fun _ _ _ h => h) (Or.inl ⟨by kernel_rfl, ?_⟩) (by assumption) ?_
        rotate_left 1
        · (intro w hSw; obtain ⟨hk1, hk2⟩ := hSw; go_simp <;> with_reducible rfl)
        simp only [Act.put, List.getElem_toArray, List.getElem_cons_zero, List.setIfInBounds_toArray, List.set_cons_zero, List.set_cons_succ]
        refine wpAnyH_take (i := 2) (v := ?_) rfl (by kernel_rfl) (by kernel_rfl) (by kernel_rfl) (fun _ _ _ h => h) (Or.inl ⟨by kernel_rfl, ?_⟩) (by assumption) ?_
        rotate_left 1
        · (intro w hSw; obtain ⟨hk1, hk2⟩ := hSw; go_simp <;> with_reducible rfl)
        simp only [Act.put, List.getElem_toArray, List.getElem_cons_zero, List.getElem_cons_succ, List.setIfInBounds_toArray, List.set_cons_zero, List.set_cons_succ]
        refine nextH (i := 1) (by kernel_rfl) rfl (fun K hK => ?_)
        go_simp
        refine (HTE.out _ hI7.s.drew).mono ?_
        rintro e w1 ⟨rfl, hb1⟩
        have hb1' := bel_tr hSd.2 hSd.2.size hb1
        try dsimp only
        refine hK _ _ (kp hb1') ?_
        clear hK K hSd
        refine nextH (i := 3) (by kernel_rfl) rfl (fun K hK => ?_)
        go_simp
        refine (HPE.out _ (hI7.r.bel hb1')).mono ?_
        rintro e w2 ⟨rfl, hb2⟩
        have hb2' := bel_tr hb1' hb1'.size hb2
        have hSd := kp hb2'
        try dsimp only
        refine hK _ _ hSd ?_
        clear hK K
        refine nextH (i := 4) (by kernel_rfl) rfl (fun K hK => ?_)
        go_simp
        refine hK _ _ hSd ?_
        clear hK K
        refine nextH (i := 5) (by kernel_rfl) rfl (fun K hK => ?_)
        go_simp
        refine hK _ _ hSd ?_
        clear hK K
        refine wpAnyH_done (by kernel_rfl) ?_ _
        go_wp2
        go_meet
        exact ⟨rfl, rfl, hb2'⟩
      obtain ⟨rfl, rfl, hbc⟩ := hcut
      obtain ⟨W8, rfl⟩ : ∃ W8 : World, W8 = wc := ⟨_, rfl⟩
      have hI8 := hI7.next hbc
      have hG8 := hG.bel hbc
      clear c0 c1 y0 y1 y2 z0 z1 hx hy hI7 hbc hG HTE HPE
      have HGe : Hid (GE = firstE [pe, te]) := by show _ = _; rw [← HGE.out, agE, HPEe.out, HTEe.out]
      have HGl : Hid (GL = if GE = 0 then pts.map (agr base l) else []) := by show _ = _; rw [← HGL.out, agL, HGE.out]
      clear HGL HGE
      by_cases ht : te = 0
      · have hT : Tr pts after width := trE_zero (by rw [HTEe.out]; exact ht)
        have hFR : fitRes pts width = (bx, Lx, ix, ex) := by have := HFAe.out; unfold fitAll at this; rw [if_pos (by rw [HTEe.out]; exact ht)] at this; exact this
        have HRF := hide (fun W h => refFitted_c B d after width pts W h hT)
        rw [hFR] at HRF
        dsimp only at HRF
        have HFR := hide hFR
        have hLx : Lx.length ≤ 1000 := by
          have := hFR
          unfold fitRes at this
          have hn1 := hT.n1
          have hfl : (fit pts (pts.length - 1)).2.2 = 0 → (fit pts (pts.length - 1)).1.length = pts.length - 1 := fit_length
          split at this
          · simp only [Prod.mk.injEq] at this; rw [← this.2.1]; simp
          · split at this
            · simp only [Prod.mk.injEq] at this; rw [← this.2.1]; simp
            · split at this
              · rename_i h0
                simp only [Prod.mk.injEq] at this; rw [← this.2.1]; simp [hfl h0]; omega
              · simp only [Prod.mk.injEq] at this; rw [← this.2.1]; simp
        clear hFR
        subst ht
        by_cases hp0 : pe = 0
        · subst hp0
          have hPr : Pro base l := proE_zero HPEe.out
          have hGE : GE = 0 := HGe.out
          subst hGE
          have hGL : GL = pts.map (agr base l) := by rw [HGl.out, if_pos rfl]
          have hglen : GL.length = pts.length := by rw [hGL, List.length_map]
          have hGk : ∀ k (h : k < GL.length) (h' : k < pts.length), GL[k] = agr base l pts[k] := by subst hGL; intro k h h'; rw [List.getElem_map]
          have HGK := hide hGk
          clear hGk hGL HGl HGe
          rw [hglen]
          have HRA := hide (fun f lo hi W h h1 h2 h3 => refAgrees_c base f lo hi A c l W h hPr h1 h2 h3)
          have e8 : ((pts.length : Int) != (pts.length : Int)) = false := by simp
          have hy := hI8.y
          have y0 := hy.cell 0; have y1 := hy.cell 1; have y2 := hy.cell 2; simp only [List.getElem?_cons_zero, List.getElem?_cons_succ] at y0 y1 y2
          have z1 := hy.lt
          have hsz := hI8.x.lt
          go_upto_region 15 with fail
          clear y0 y1 y2 z1 hy
          go_wp2
          go_loopw [12] (fun x wr => ∃ k : Nat, k ≤ pts.length ∧ x = .int .i64 k ∧ Below W8.heap.size W8 wr) (fun x _ => pts.length - (intOf x).toNat)
          case atStart => exact ⟨0, Nat.zero_le _, rfl, Below.refl _ _⟩
          case round =>
            obtain ⟨k, hk, rfl, hbr⟩ := hrel
            have hIr := hI8.next hbr
            have hGr := hG8.bel hbr
            by_cases hlt : k < pts.length
            · have hlt' : k < GL.length := by omega
              obtain ⟨gb, go, rfl, hgb, hg0⟩ := hGr.int_at hlt'
              obtain ⟨b, off, rfl, hblt, hc0, hc1, hc2⟩ := hIr.s.p_at hlt
              have hpt := hT.pt k hlt
              rw [HGK.out k hlt' hlt] at hg0
              have hF : pts[k] = (pf pts k, plo pts k, phi pts k) := by unfold pf plo phi; rw [getD_at hlt]
              rw [hF] at hg0 hc0 hc1 hc2
              dsimp only at hc0 hc1 hc2
              generalize pf pts k = f at hg0 hc0 hpt
              generalize plo pts k = lo at hg0 hc1 hpt
              generalize phi pts k = hi at hg0 hc2 hpt
              have hx := hIr.x
              have hy := hIr.y
              have c0 := hx.cell 0; have c1 := hx.cell 1; simp only [List.getElem?_cons_zero, List.getElem?_cons_succ] at c0 c1
              have y0 := hy.cell 0; have y1 := hy.cell 1; have y2 := hy.cell 2; simp only [List.getElem?_cons_zero, List.getElem?_cons_succ] at y0 y1 y2
              have z0 := hx.lt
              have z1 := hy.lt
              have hkI : (k : Int) < (pts.length : Int) := by omega
              have e9 : (agr base l (f, lo, hi) != agr base l (f, lo, hi)) = false := by simp
              go_upto_region 18 with fail
              refine wp_region_held (S := fun w' => (∀ b o, b < wr.heap.size → w'.cell? ⟨b, o, none⟩ = wr.cell? ⟨b, o, none⟩) ∧ Below wr.heap.size wr w') (by kernel_rfl) ?_
              have hSd : (∀ b o, b < wr.heap.size → wr.drew.cell? ⟨b, o, none⟩ = wr.cell? ⟨b, o, none⟩) ∧ Below wr.heap.size wr wr.drew := kp (Below.refl _ _).drew
              change wpAnyH _ _ _ _ _ _ _ _ wr.drew
              refine wpAnyH_take (i := 0) (v := ?_) rfl (by kernel_rfl) (by kernel_rfl) (by kernel_rfl) (fun _ _ _ h => h) (Or.inl ⟨by kernel_rfl, ?_⟩) (by assumption) ?_
              rotate_left 1
              · (intro w hSw; obtain ⟨hk1, hk2⟩ := hSw; go_simp <;> with_reducible rfl)
              simp only [Act.put, List.getElem_toArray, List.getElem_cons_zero, List.setIfInBounds_toArray, List.set_cons_zero, List.set_cons_succ]
              refine wpAnyH_take (i := 1) (v := ?_) rfl (by kernel_rfl) (by kernel_rfl) (by kernel_rfl) (fun _ _ _ h => h) (Or.inl ⟨by kernel_rfl, ?_⟩) (by assumption) ?_
              rotate_left 1
              · (intro w hSw; obtain ⟨hk1, hk2⟩ := hSw; go_simp <;> with_reducible rfl)
              simp only [Act.put, List.getElem_toArray, List.getElem_cons_zero, List.getElem_cons_succ, List.setIfInBounds_toArray, List.set_cons_zero, List.set_cons_succ]
              refine wpAnyH_take (i := 2) (v := ?_) rfl (by kernel_rfl) (by kernel_rfl) (by kernel_rfl) (fun _ _ _ h => h) (Or.inl ⟨by kernel_rfl, ?_⟩) (by assumption) ?_
              rotate_left 1
              · (intro w hSw; obtain ⟨hk1, hk2⟩ := hSw; go_simp <;> with_reducible rfl)
              simp only [Act.put, List.getElem_toArray, List.getElem_cons_zero, List.getElem_cons_succ, List.setIfInBounds_toArray, List.set_cons_zero, List.set_cons_succ]
              refine wpAnyH_take (i := 3) (v := ?_) rfl (by kernel_rfl) (by kernel_rfl) (by kernel_rfl) (fun _ _ _ h => h) (Or.inl ⟨by kernel_rfl, ?_⟩) (by assumption) ?_
              rotate_left 1
              · (intro w hSw; obtain ⟨hk1, hk2⟩ := hSw; go_simp <;> with_reducible rfl)
              simp only [Act.put, List.getElem_toArray, List.getElem_cons_zero, List.getElem_cons_succ, List.setIfInBounds_toArray, List.set_cons_zero, List.set_cons_succ]
              refine wpAnyH_take (i := 4) (v := ?_) rfl (by kernel_rfl) (by kernel_rfl) (by kernel_rfl) (fun _ _ _ h => h) (Or.inl ⟨by kernel_rfl, ?_⟩) (by assumption) ?_
              rotate_left 1
              · (intro w hSw; obtain ⟨hk1, hk2⟩ := hSw; go_simp <;> with_reducible rfl)
              simp only [Act.put, List.getElem_toArray, List.getElem_cons_zero, List.getElem_cons_succ, List.setIfInBounds_toArray, List.set_cons_zero, List.set_cons_succ]
              refine wpAnyH_take (i := 5) (v := ?_) rfl (by kernel_rfl) (by kernel_rfl) (by kernel_rfl) (fun _ _ _ h => h) (Or.inl ⟨by kernel_rfl, ?_⟩) (by assumption) ?_
              rotate_left 1
              · (intro w hSw; obtain ⟨hk1, hk2⟩ := hSw; go_simp <;> with_reducible rfl)
              simp only [Act.put, List.getElem_toArray, List.getElem_cons_zero, List.getElem_cons_succ, List.setIfInBounds_toArray, List.set_cons_zero, List.set_cons_succ]
              refine wpAnyH_take (i := 6) (v := ?_) rfl (by kernel_rfl) (by kernel_rfl) (by kernel_rfl) (fun _ _ _ h => h) (Or.inl ⟨by kernel_rfl, ?_⟩) (by assumption) ?_
              rotate_left 1
              · (intro w hSw; obtain ⟨hk1, hk2⟩ := hSw; go_simp <;> with_reducible rfl)
              simp only [Act.put, List.getElem_toArray, List.getElem_cons_zero, List.getElem_cons_succ, List.setIfInBounds_toArray, List.set_cons_zero, List.set_cons_succ]
              refine wpAnyH_take (i := 7) (v := ?_) rfl (by kernel_rfl) (by kernel_rfl) (by kernel_rfl) (fun _ _ _ h => h) (Or.inl ⟨by kernel_rfl, ?_⟩) (by assumption) ?_
              rotate_left 1
              · (intro w hSw; obtain ⟨hk1, hk2⟩ := hSw; go_simp <;> with_reducible rfl)
              simp only [Act.put, List.getElem_toArray, List.getElem_cons_zero, List.getElem_cons_succ, List.setIfInBounds_toArray, List.set_cons_zero, List.set_cons_succ]
              refine wpAnyH_take (i := 8) (v := ?_) rfl (by kernel_rfl) (by kernel_rfl) (by kernel_rfl) (fun _ _ _ h => h) (Or.inl ⟨by kernel_rfl, ?_⟩) (by assumption) ?_
              rotate_left 1
              · (intro w hSw; obtain ⟨hk1, hk2⟩ := hSw; go_simp <;> with_reducible rfl)
              simp only [Act.put, List.getElem_toArray, List.getElem_cons_zero, List.getElem_cons_succ, List.setIfInBounds_toArray, List.set_cons_zero, List.set_cons_succ]
              refine wpAnyH_take (i := 9) (v := ?_) rfl (by kernel_rfl) (by kernel_rfl) (by kernel_rfl) (fun _ _ _ h => h) (Or.inl ⟨by kernel_rfl, ?_⟩) (by assumption) ?_
              rotate_left 1
              · (intro w hSw; obtain ⟨hk1, hk2⟩ := hSw; go_simp <;> with_reducible rfl)
              simp only [Act.put, List.getElem_toArray, List.getElem_cons_zero, List.getElem_cons_succ, List.setIfInBounds_toArray, List.set_cons_zero, List.set_cons_succ]
              refine nextH (i := 10) (by kernel_rfl) rfl (fun K hK => ?_)
              go_simp
              refine (HRA.out _ _ _ _ hIr.r.drew hpt.1 hpt.2.1 hpt.2.2.2.1).mono ?_
              rintro e w9 ⟨rfl, hb9⟩
              have hb9' := bel_tr hSd.2 hSd.2.size hb9
              clear hSd
              have hSd := kp hb9'
              try dsimp only
              refine hK _ _ hSd ?_
              clear hK K
              refine wpAnyH_take (i := 11) (v := ?_) rfl (by kernel_rfl) (by kernel_rfl) (by kernel_rfl) (fun _ _ _ h => h) (Or.inl ⟨by kernel_rfl, ?_⟩) (by assumption) ?_
              rotate_left 1
              · (intro w hSw; obtain ⟨hk1, hk2⟩ := hSw; go_simp <;> with_reducible rfl)
              simp only [Act.put, List.getElem_toArray, List.getElem_cons_zero, List.getElem_cons_succ, List.setIfInBounds_toArray, List.set_cons_zero, List.set_cons_succ]
              refine wpAnyH_done (by kernel_rfl) ?_ _
              go_wp2
              go_roundw
              case rel => exact ⟨k + 1, by omega, by go_num, hbr.trans (hb9'.mono hbr.size)⟩
              case measure => simp [intOf]; omega
            · obtain rfl : k = pts.length := by omega
              go_upto_region 20 with fail
              have hywr := hIr.y
              have y0 := hywr.cell 0; have y1 := hywr.cell 1; have y2 := hywr.cell 2; simp only [List.getElem?_cons_zero, List.getElem?_cons_succ] at y0 y1 y2
              have zy := hywr.lt
              go_upto_region 23 with (first | (go_at_call 27; refine (HRF.out _ hIr.s).mono ?_; rintro e w9 ⟨⟨A9, c9, rfl, hr9⟩, hb9⟩))
              obtain ⟨q2, hq2⟩ : ∃ q2, w9.heap.size = q2 := ⟨_, rfl⟩
              obtain ⟨W10, hW10⟩ : ∃ W, w9.alloc (.cells #[.int .i64 bx, .slice A9 Lx.length c9] 24) = W := ⟨_, rfl⟩
              have hb10 : Below wr.heap.size wr W10 := by rw [← hW10]; exact bel_alloc hb9 hb9.size _
              have hU : Blk W10 q2 24 [.int .i64 bx, .slice A9 Lx.length c9] := by rw [← hW10, ← hq2]; exact Blk.new w9 _ [_, _]
              have hr10 : Rd W10 A9 (gs Lx) := by rw [← hW10]; exact hr9.alloc _
              have hI10 := hIr.next hb10
              rw [hW10, hq2]
              clear hW10 y0 y1 y2 zy hywr hb9 hb10 hr9
              have hqx := hI10.q
              have q0 := hqx.cell 0; have q1 := hqx.cell 1; simp only [List.getElem?_cons_zero, List.getElem?_cons_succ] at q0 q1
              have u0 := hU.cell 0; have u1 := hU.cell 1; simp only [List.getElem?_cons_zero, List.getElem?_cons_succ] at u0 u1
              have zq := hqx.lt
              have zu := hU.lt
              have HSM := hide (same_eq bx Ax A9 cx c9 Lx W10 hI10.f hr10 hLx)
              have e6 : (ex != ex) = false := by simp
              have e7 : (ix != ix) = false := by simp
              go_upto_region 25 with (first | (go_at_call 26; refine HSM.out.mono ?_; rintro e w11 ⟨rfl, hb11⟩))
              have hI11 := hI10.next hb11
              clear q0 q1 u0 u1 zq zu hqx hU hr10 HSM hI10 e6 e7
              by_cases hex : ex = 0
              · subst hex
                obtain ⟨hPx, hno⟩ := fitRes_ok hT HFR.out
                have HNO := hide hno
                have HCX := hide (fun W h => copy_c bx Ax cx Lx W h hLx)
                have HCT := hide (fun W h => copyTrace_c B d after width pts W h hpl)
                have HAX := hide (fun A B c d W h h' => agreesWith_ok bx after width A B c d Lx pts W h h' hPx hT)
                have hqx := hI11.q
                have hyx := hI11.y
                have q0 := hqx.cell 0; have q1 := hqx.cell 1; simp only [List.getElem?_cons_zero, List.getElem?_cons_succ] at q0 q1
                have y0 := hyx.cell 0; have y1 := hyx.cell 1; have y2 := hyx.cell 2; simp only [List.getElem?_cons_zero, List.getElem?_cons_succ] at y0 y1 y2
                have zq := hqx.lt
                have zy := hyx.lt
                go_upto_region 27 with fail
                go_cut [15, 16] from 124 to 130 (fun t u wx => ∃ (A' : Option Addr) (c' : Nat), t = .slice A' pts.length c' ∧ u = .int .i64 0 ∧ Rd wx A' (ints (pts.map (agr bx Lx))) ∧ Below w11.heap.size w11 wx)
                case first =>
                  refine wp_region_held (S := fun w' => (∀ b o, b < w11.heap.size → w'.cell? ⟨b, o, none⟩ = w11.cell? ⟨b, o, none⟩) ∧ Below w11.heap.size w11 w') (by kernel_rfl) ?_
                  have hSd : (∀ b o, b < w11.heap.size → w11.drew.cell? ⟨b, o, none⟩ = w11.cell? ⟨b, o, none⟩) ∧ Below w11.heap.size w11 w11.drew := kp (Below.refl _ _).drew
                  change wpAnyH _ _ _ _ _ _ _ _ w11.drew
                  refine wpAnyH_take (i := 0) (v := ?_) rfl (by kernel_rfl) (by kernel_rfl) (by kernel_rfl) (fun _ _ _ h => h) (Or.inl ⟨by kernel_rfl, ?_⟩) (by assumption) ?_
                  rotate_left 1
                  · (intro w hSw; obtain ⟨hk1, hk2⟩ := hSw; go_simp <;> with_reducible rfl)
                  simp only [Act.put, List.getElem_toArray, List.getElem_cons_zero, List.setIfInBounds_toArray, List.set_cons_zero, List.set_cons_succ]
                  refine wpAnyH_take (i := 2) (v := ?_) rfl (by kernel_rfl) (by kernel_rfl) (by kernel_rfl) (fun _ _ _ h => h) (Or.inl ⟨by kernel_rfl, ?_⟩) (by assumption) ?_
                  rotate_left 1
                  · (intro w hSw; obtain ⟨hk1, hk2⟩ := hSw; go_simp <;> with_reducible rfl)
                  simp only [Act.put, List.getElem_toArray, List.getElem_cons_zero, List.getElem_cons_succ, List.setIfInBounds_toArray, List.set_cons_zero, List.set_cons_succ]
                  refine nextH (i := 1) (by kernel_rfl) rfl (fun K hK => ?_)
                  go_simp
                  refine (HCX.out _ hI11.f.drew).mono ?_
                  rintro e w1 ⟨⟨A1, c1', rfl, hr1⟩, hb1⟩
                  have hb1' := bel_tr hSd.2 hSd.2.size hb1
                  try dsimp only
                  refine hK _ _ (kp hb1') ?_
                  clear hK K hSd
                  refine nextH (i := 3) (by kernel_rfl) rfl (fun K hK => ?_)
                  go_simp
                  refine (HCT.out _ (hI11.s.bel hb1')).mono ?_
                  rintro e w2 ⟨⟨A2, c2', rfl, hr2⟩, hb2⟩
                  have hb2' := bel_tr hb1' hb1'.size hb2
                  try dsimp only
                  refine hK _ _ (kp hb2') ?_
                  clear hK K
                  refine nextH (i := 4) (by kernel_rfl) rfl (fun K hK => ?_)
                  go_simp
                  refine (HAX.out _ _ _ _ _ (hr1.bel hb2) hr2).mono ?_
                  rintro e w3' ⟨⟨A3, c3', rfl, hr3⟩, hb3⟩
                  have hb3' := bel_tr hb2' hb2'.size hb3
                  have hSd := kp hb3'
                  try dsimp only
                  refine hK _ _ hSd ?_
                  clear hK K
                  refine wpAnyH_take (i := 5) (v := ?_) rfl (by kernel_rfl) (by kernel_rfl) (by kernel_rfl) (fun _ _ _ h => h) (Or.inl ⟨by kernel_rfl, ?_⟩) (by assumption) ?_
                  rotate_left 1
                  · (intro w hSw; obtain ⟨hk1, hk2⟩ := hSw; go_simp <;> with_reducible rfl)
                  simp only [Act.put, List.getElem_toArray, List.getElem_cons_zero, List.getElem_cons_succ, List.setIfInBounds_toArray, List.set_cons_zero, List.set_cons_succ]
                  refine wpAnyH_take (i := 6) (v := ?_) rfl (by kernel_rfl) (by kernel_rfl) (by kernel_rfl) (fun _ _ _ h => h) (Or.inl ⟨by kernel_rfl, ?_⟩) (by assumption) ?_
                  rotate_left 1
                  · (intro w hSw; obtain ⟨hk1, hk2⟩ := hSw; go_simp <;> with_reducible rfl)
                  simp only [Act.put, List.getElem_toArray, List.getElem_cons_zero, List.getElem_cons_succ, List.setIfInBounds_toArray, List.set_cons_zero, List.set_cons_succ]
                  refine wpAnyH_take (i := 7) (v := ?_) rfl (by kernel_rfl) (by kernel_rfl) (by kernel_rfl) (fun _ _ _ h => h) (Or.inl ⟨by kernel_rfl, ?_⟩) (by assumption) ?_
                  rotate_left 1
                  · (intro w hSw; obtain ⟨hk1, hk2⟩ := hSw; go_simp <;> with_reducible rfl)
                  simp only [Act.put, List.getElem_toArray, List.getElem_cons_zero, List.getElem_cons_succ, List.setIfInBounds_toArray, List.set_cons_zero, List.set_cons_succ]
                  refine nextH (i := 8) (by kernel_rfl) rfl (fun K hK => ?_)
                  go_simp
                  refine hK _ _ hSd ?_
                  clear hK K
                  refine nextH (i := 9) (by kernel_rfl) rfl (fun K hK => ?_)
                  go_simp
                  refine hK _ _ hSd ?_
                  clear hK K
                  refine wpAnyH_done (by kernel_rfl) ?_ _
                  go_wp2
                  go_meet
                  exact ⟨A3, c3', rfl, rfl, hr3, hb3'⟩
                obtain ⟨MA, mc, rfl, rfl, hM, hbc⟩ := hcut
                obtain ⟨w12, rfl⟩ : ∃ w12 : World, w12 = wc := ⟨_, rfl⟩
                have hI12 := hI11.next hbc
                clear q0 q1 y0 y1 y2 zq zy hqx hyx hI11 hbc
                have hyx := hI12.y
                have y0 := hyx.cell 0; have y1 := hyx.cell 1; have y2 := hyx.cell 2; simp only [List.getElem?_cons_zero, List.getElem?_cons_succ] at y0 y1 y2
                have zy := hyx.lt
                have HHA : Hid (Calls Try.prog 28 #[.slice MA pts.length mc, .int .i64 0] w12 fun r w' => r = .returned (.bool false) ∧ w12 = w') := by
                  have := has_c (pts.map (agr bx Lx)) 0 MA mc w12 hM (by rw [List.length_map]; exact hpl)
                  rw [List.length_map, decide_eq_false HNO.out] at this
                  exact this
                have e8 : ((pts.length : Int) == (pts.length : Int)) = true := by simp
                go_wp2_with (first | (go_at_call 28; refine HHA.out.mono ?_; rintro e wz ⟨rfl, rfl⟩))
                go_ret
                exact ⟨rfl, by rw [hp]; exact hI12.b⟩
              · have e8 : (ex != 0) = true := by simpa using hex
                clear hex
                go_wp2
                go_ret
                exact ⟨rfl, by rw [hp]; exact hI11.b⟩
        · have hGE : GE = pe := by rw [HGe.out]; simp [firstE, hp0]
          subst hGE
          have hGL : GL = [] := by rw [HGl.out, if_neg hp0]
          subst hGL
          have e1 : (GE == 0) = false := by simpa using hp0
          have e2 : (GE != 0) = true := by simpa using hp0
          have e3 : (GE != GE) = false := by simp
          clear hp0 HGe HGl
          go_upto_region 20 with fail
          have hyW8 := hI8.y
          have y0 := hyW8.cell 0; have y1 := hyW8.cell 1; have y2 := hyW8.cell 2; simp only [List.getElem?_cons_zero, List.getElem?_cons_succ] at y0 y1 y2
          have zy := hyW8.lt
          go_upto_region 23 with (first | (go_at_call 27; refine (HRF.out _ hI8.s).mono ?_; rintro e w9 ⟨⟨A9, c9, rfl, hr9⟩, hb9⟩))
          obtain ⟨q2, hq2⟩ : ∃ q2, w9.heap.size = q2 := ⟨_, rfl⟩
          obtain ⟨W10, hW10⟩ : ∃ W, w9.alloc (.cells #[.int .i64 bx, .slice A9 Lx.length c9] 24) = W := ⟨_, rfl⟩
          have hb10 : Below W8.heap.size W8 W10 := by rw [← hW10]; exact bel_alloc hb9 hb9.size _
          have hU : Blk W10 q2 24 [.int .i64 bx, .slice A9 Lx.length c9] := by rw [← hW10, ← hq2]; exact Blk.new w9 _ [_, _]
          have hr10 : Rd W10 A9 (gs Lx) := by rw [← hW10]; exact hr9.alloc _
          have hI10 := hI8.next hb10
          rw [hW10, hq2]
          clear hW10 y0 y1 y2 zy hyW8 hb9 hb10 hr9
          have hqx := hI10.q
          have q0 := hqx.cell 0; have q1 := hqx.cell 1; simp only [List.getElem?_cons_zero, List.getElem?_cons_succ] at q0 q1
          have u0 := hU.cell 0; have u1 := hU.cell 1; simp only [List.getElem?_cons_zero, List.getElem?_cons_succ] at u0 u1
          have zq := hqx.lt
          have zu := hU.lt
          have HSM := hide (same_eq bx Ax A9 cx c9 Lx W10 hI10.f hr10 hLx)
          have e6 : (ex != ex) = false := by simp
          have e7 : (ix != ix) = false := by simp
          go_upto_region 25 with (first | (go_at_call 26; refine HSM.out.mono ?_; rintro e w11 ⟨rfl, hb11⟩))
          have hI11 := hI10.next hb11
          clear q0 q1 u0 u1 zq zu hqx hU hr10 HSM hI10 e6 e7
          by_cases hex : ex = 0
          · subst hex
            obtain ⟨hPx, hno⟩ := fitRes_ok hT HFR.out
            have HNO := hide hno
            have HCX := hide (fun W h => copy_c bx Ax cx Lx W h hLx)
            have HCT := hide (fun W h => copyTrace_c B d after width pts W h hpl)
            have HAX := hide (fun A B c d W h h' => agreesWith_ok bx after width A B c d Lx pts W h h' hPx hT)
            have hqx := hI11.q
            have hyx := hI11.y
            have q0 := hqx.cell 0; have q1 := hqx.cell 1; simp only [List.getElem?_cons_zero, List.getElem?_cons_succ] at q0 q1
            have y0 := hyx.cell 0; have y1 := hyx.cell 1; have y2 := hyx.cell 2; simp only [List.getElem?_cons_zero, List.getElem?_cons_succ] at y0 y1 y2
            have zq := hqx.lt
            have zy := hyx.lt
            go_upto_region 27 with fail
            go_cut [15, 16] from 124 to 130 (fun t u wx => ∃ (A' : Option Addr) (c' : Nat), t = .slice A' pts.length c' ∧ u = .int .i64 0 ∧ Rd wx A' (ints (pts.map (agr bx Lx))) ∧ Below w11.heap.size w11 wx)
            case first =>
              refine wp_region_held (S := fun w' => (∀ b o, b < w11.heap.size → w'.cell? ⟨b, o, none⟩ = w11.cell? ⟨b, o, none⟩) ∧ Below w11.heap.size w11 w') (by kernel_rfl) ?_
              have hSd : (∀ b o, b < w11.heap.size → w11.drew.cell? ⟨b, o, none⟩ = w11.cell? ⟨b, o, none⟩) ∧ Below w11.heap.size w11 w11.drew := kp (Below.refl _ _).drew
              change wpAnyH _ _ _ _ _ _ _ _ w11.drew
              refine wpAnyH_take (i := 0) (v := ?_) rfl (by kernel_rfl) (by kernel_rfl) (by kernel_rfl) (fun _ _ _ h => h) (Or.inl ⟨by kernel_rfl, ?_⟩) (by assumption) ?_
              rotate_left 1
              · (intro w hSw; obtain ⟨hk1, hk2⟩ := hSw; go_simp <;> with_reducible rfl)
              simp only [Act.put, List.getElem_toArray, List.getElem_cons_zero, List.setIfInBounds_toArray, List.set_cons_zero, List.set_cons_succ]
              refine wpAnyH_take (i := 2) (v := ?_) rfl (by kernel_rfl) (by kernel_rfl) (by kernel_rfl) (fun _ _ _ h => h) (Or.inl ⟨by kernel_rfl, ?_⟩) (by assumption) ?_
              rotate_left 1
              · (intro w hSw; obtain ⟨hk1, hk2⟩ := hSw; go_simp <;> with_reducible rfl)
              simp only [Act.put, List.getElem_toArray, List.getElem_cons_zero, List.getElem_cons_succ, List.setIfInBounds_toArray, List.set_cons_zero, List.set_cons_succ]
              refine nextH (i := 1) (by kernel_rfl) rfl (fun K hK => ?_)
              go_simp
              refine (HCX.out _ hI11.f.drew).mono ?_
              rintro e w1 ⟨⟨A1, c1', rfl, hr1⟩, hb1⟩
              have hb1' := bel_tr hSd.2 hSd.2.size hb1
              try dsimp only
              refine hK _ _ (kp hb1') ?_
              clear hK K hSd
              refine nextH (i := 3) (by kernel_rfl) rfl (fun K hK => ?_)
              go_simp
              refine (HCT.out _ (hI11.s.bel hb1')).mono ?_
              rintro e w2 ⟨⟨A2, c2', rfl, hr2⟩, hb2⟩
              have hb2' := bel_tr hb1' hb1'.size hb2
              try dsimp only
              refine hK _ _ (kp hb2') ?_
              clear hK K
              refine nextH (i := 4) (by kernel_rfl) rfl (fun K hK => ?_)
              go_simp
              refine (HAX.out _ _ _ _ _ (hr1.bel hb2) hr2).mono ?_
              rintro e w3' ⟨⟨A3, c3', rfl, hr3⟩, hb3⟩
              have hb3' := bel_tr hb2' hb2'.size hb3
              have hSd := kp hb3'
              try dsimp only
              refine hK _ _ hSd ?_
              clear hK K
              refine wpAnyH_take (i := 5) (v := ?_) rfl (by kernel_rfl) (by kernel_rfl) (by kernel_rfl) (fun _ _ _ h => h) (Or.inl ⟨by kernel_rfl, ?_⟩) (by assumption) ?_
              rotate_left 1
              · (intro w hSw; obtain ⟨hk1, hk2⟩ := hSw; go_simp <;> with_reducible rfl)
              simp only [Act.put, List.getElem_toArray, List.getElem_cons_zero, List.getElem_cons_succ, List.setIfInBounds_toArray, List.set_cons_zero, List.set_cons_succ]
              refine wpAnyH_take (i := 6) (v := ?_) rfl (by kernel_rfl) (by kernel_rfl) (by kernel_rfl) (fun _ _ _ h => h) (Or.inl ⟨by kernel_rfl, ?_⟩) (by assumption) ?_
              rotate_left 1
              · (intro w hSw; obtain ⟨hk1, hk2⟩ := hSw; go_simp <;> with_reducible rfl)
              simp only [Act.put, List.getElem_toArray, List.getElem_cons_zero, List.getElem_cons_succ, List.setIfInBounds_toArray, List.set_cons_zero, List.set_cons_succ]
              refine wpAnyH_take (i := 7) (v := ?_) rfl (by kernel_rfl) (by kernel_rfl) (by kernel_rfl) (fun _ _ _ h => h) (Or.inl ⟨by kernel_rfl, ?_⟩) (by assumption) ?_
              rotate_left 1
              · (intro w hSw; obtain ⟨hk1, hk2⟩ := hSw; go_simp <;> with_reducible rfl)
              simp only [Act.put, List.getElem_toArray, List.getElem_cons_zero, List.getElem_cons_succ, List.setIfInBounds_toArray, List.set_cons_zero, List.set_cons_succ]
              refine nextH (i := 8) (by kernel_rfl) rfl (fun K hK => ?_)
              go_simp
              refine hK _ _ hSd ?_
              clear hK K
              refine nextH (i := 9) (by kernel_rfl) rfl (fun K hK => ?_)
              go_simp
              refine hK _ _ hSd ?_
              clear hK K
              refine wpAnyH_done (by kernel_rfl) ?_ _
              go_wp2
              go_meet
              exact ⟨A3, c3', rfl, rfl, hr3, hb3'⟩
            obtain ⟨MA, mc, rfl, rfl, hM, hbc⟩ := hcut
            obtain ⟨w12, rfl⟩ : ∃ w12 : World, w12 = wc := ⟨_, rfl⟩
            have hI12 := hI11.next hbc
            clear q0 q1 y0 y1 y2 zq zy hqx hyx hI11 hbc
            have hyx := hI12.y
            have y0 := hyx.cell 0; have y1 := hyx.cell 1; have y2 := hyx.cell 2; simp only [List.getElem?_cons_zero, List.getElem?_cons_succ] at y0 y1 y2
            have zy := hyx.lt
            have HHA : Hid (Calls Try.prog 28 #[.slice MA pts.length mc, .int .i64 0] w12 fun r w' => r = .returned (.bool false) ∧ w12 = w') := by
              have := has_c (pts.map (agr bx Lx)) 0 MA mc w12 hM (by rw [List.length_map]; exact hpl)
              rw [List.length_map, decide_eq_false HNO.out] at this
              exact this
            have e8 : ((pts.length : Int) == (pts.length : Int)) = true := by simp
            go_wp2_with (first | (go_at_call 28; refine HHA.out.mono ?_; rintro e wz ⟨rfl, rfl⟩))
            go_ret
            exact ⟨rfl, by rw [hp]; exact hI12.b⟩
          · have e8 : (ex != 0) = true := by simpa using hex
            clear hex
            go_wp2
            go_ret
            exact ⟨rfl, by rw [hp]; exact hI11.b⟩
      · have hFR : (0, [], 0, te) = ((bx, Lx, ix, ex) : Int × List G × Int × Int) := by have := HFAe.out; unfold fitAll at this; rw [if_neg (by rw [HTEe.out]; exact ht), HTEe.out] at this; exact this
        simp only [Prod.mk.injEq] at hFR
        obtain ⟨rfl, rfl, rfl, rfl⟩ := hFR
        have e4 : (te != 0) = true := by simpa using ht
        have e5 : (te == te) = true := by simp
        have e6 : (te != te) = false := by simp
        have hqx := hI8.q
        have q0 := hqx.cell 0; have q1 := hqx.cell 1; simp only [List.getElem?_cons_zero, List.getElem?_cons_succ] at q0 q1
        have zq := hqx.lt
        have HSM := hide (same_eq 0 Ax none cx 0 [] W8 hI8.f (Rd.nil _ _) (by simp))
        by_cases hp0 : pe = 0
        · subst hp0
          have hGE : GE = te := by rw [HGe.out]; simp [firstE, ht]
          subst hGE
          have hGL : GL = [] := by rw [HGl.out, if_neg ht]
          subst hGL
          clear ht HGe HGl
          go_wp2_with (first | (go_at_call 26; refine HSM.out.mono ?_; rintro e w11 ⟨rfl, hb11⟩))
          go_ret
          exact ⟨rfl, by rw [hp]; exact (hI8.next hb11).b⟩
        · have hGE : GE = pe := by rw [HGe.out]; simp [firstE, hp0]
          subst hGE
          have hGL : GL = [] := by rw [HGl.out, if_neg hp0]
          subst hGL
          have e1 : (GE == 0) = false := by simpa using hp0
          have e2 : (GE != 0) = true := by simpa using hp0
          have e3 : (GE != GE) = false := by simp
          clear ht hp0 HGe HGl
          go_wp2_with (first | (go_at_call 26; refine HSM.out.mono ?_; rintro e w11 ⟨rfl, hb11⟩))
          go_ret
          exact ⟨rfl, by rw [hp]; exact (hI8.next hb11).b⟩
    · rw [decide_eq_false h10] at HFP
      clear hpx h10
      go_enter Try.func5, Try.ntmps5
      go_upto_region 1 with fail
      rw [HW.out]
      go_wp2_with (first
        | (go_at_call 6; refine (awake_c _).mono ?_; rintro e w1 ⟨rfl, hb1⟩; have hX1 := hX0.bel hb1; have hY1 := hY0.bel hb1; have k0 := hX1.cell 0; have k1 := hX1.cell 1; simp only [List.getElem?_cons_zero, List.getElem?_cons_succ] at k0 k1; have n0 := hY1.cell 0; have n1 := hY1.cell 1; have n2 := hY1.cell 2; simp only [List.getElem?_cons_zero, List.getElem?_cons_succ] at n0 n1 n2; have zk := hX1.lt; have zn := hY1.lt)
        | (go_at_call 7; refine (HFew.out _).mono ?_; rintro e w2 ⟨rfl, hb2⟩; have hY2 := hY1.bel hb2; have i0 := hY2.cell 0; have i1 := hY2.cell 1; have i2 := hY2.cell 2; simp only [List.getElem?_cons_zero, List.getElem?_cons_succ] at i0 i1 i2; have zi := hY2.lt)
        | (go_at_call 22; refine (HFP.out _).mono ?_; rintro e w3 ⟨rfl, hb3⟩))
      go_ret
      exact ⟨rfl, by rw [hp]; exact bel_tr hB0 (by omega) (tr (tr hb1 hb2 hb1.size) hb3 (by have := hb1.size; have := hb2.size; omega))⟩
  · rw [decide_eq_false h14] at HFew
    clear hmx h14
    go_enter Try.func5, Try.ntmps5
    go_upto_region 1 with fail
    rw [HW.out]
    go_wp2_with (first
      | (go_at_call 6; refine (awake_c _).mono ?_; rintro e w1 ⟨rfl, hb1⟩; have hX1 := hX0.bel hb1; have hY1 := hY0.bel hb1; have k0 := hX1.cell 0; have k1 := hX1.cell 1; simp only [List.getElem?_cons_zero, List.getElem?_cons_succ] at k0 k1; have n0 := hY1.cell 0; have n1 := hY1.cell 1; have n2 := hY1.cell 2; simp only [List.getElem?_cons_zero, List.getElem?_cons_succ] at n0 n1 n2; have zk := hX1.lt; have zn := hY1.lt)
      | (go_at_call 7; refine (HFew.out _).mono ?_; rintro e w2 ⟨rfl, hb2⟩; have hY2 := hY1.bel hb2; have i0 := hY2.cell 0; have i1 := hY2.cell 1; have i2 := hY2.cell 2; simp only [List.getElem?_cons_zero, List.getElem?_cons_succ] at i0 i1 i2; have zi := hY2.lt)
      | (go_at_call 22; refine (HFP.out _).mono ?_; rintro e w3 ⟨rfl, hb3⟩))
    go_ret
    exact ⟨rfl, by rw [hp]; exact bel_tr hB0 (by omega) (tr hb1 hb2 hb1.size)⟩
end Go.Proofs.Ytdeehodekilaiaa
