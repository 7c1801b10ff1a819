/- Contracts: the examples come out as the document says. -/
import Derived.Test.YtkcjiejdjdcbeaaRy42
import Derived.Test.YtkcjiejdjdcbeaaRy36
set_option linter.unusedSimpArgs false
set_option linter.unusedVariables false
set_option linter.unusedSimpArgs false
set_option linter.unusedVariables false
namespace Go.Proofs.Ytkcjiejdjdcbeaa
open Go.RowKit
set_option maxRecDepth 100000

theorem rd_new4 (w : World) (a b c d : Int) : Rd (w.alloc (.cells #[.int .i64 a, .int .i64 b, .int .i64 c, .int .i64 d] 3)) (some ⟨w.heap.size, 0, none⟩) (ints [a, b, c, d]) := (Blk.new w 3 (ints [a, b, c, d])).rd (List.prefix_refl _)
theorem awake_usable : usaQ 100 4 19000 21000 [900, 1000, 1272, 1273] oneL = ((1272, 2, 1272), 0) := by
  delta usaQ usaE usAll usStep ansL anK ansQ grdQ halfQ legsL legQ rootQ
  rw [rootN_C]
  decide +kernel
theorem aw_ground (A : Option Addr) (W : World) (h : Rd W A (gs skyL)) : Calls Try.prog 32 #[.agg #[.int .i64 100, .slice A 3 3], .int .i64 1000, .agg #[.int .i64 1, .int .i64 4]] W fun r w' => r = .returned (.tuple #[.agg #[.int .i64 25706, .int .i64 25712], .int .i64 0]) ∧ Below W.heap.size W w' := by
  have h1 := groundOf_c 100 1000 1 4 A 3 skyL W h (by decide) (by decide) (by decide) (by decide) (by decide)
  rw [awake_ground] at h1
  exact h1
theorem aw_secant (A : Option Addr) (W : World) (h : Rd W A (gs skyL)) : Calls Try.prog 21 #[.agg #[.int .i64 100, .slice A 3 3], .agg #[.int .i64 1, .int .i64 4]] W fun r w' => r = .returned (.tuple #[.int .i64 1039, .int .i64 0]) ∧ Below W.heap.size W w' := by
  have h1 := secantOf_c 100 1 4 A 3 skyL W h (by decide) (by decide) (by decide) (by decide)
  rw [awake_secant] at h1
  exact h1
theorem aw_usable (A B : Option Addr) (W : World) (h : Rd W A (gs oneL)) (hs : Rd W B (ints [900, 1000, 1272, 1273])) : Calls Try.prog 64 #[.agg #[.int .i64 100, .slice A 1 1], .agg #[.int .i64 4, .int .i64 19000, .int .i64 21000, .slice B 4 4]] W fun r w' => r = .returned (.tuple #[.agg #[.int .i64 1272, .int .i64 2, .int .i64 1272], .int .i64 0]) ∧ Below W.heap.size W w' := by
  have h1 := usableForE_c 100 4 19000 21000 [900, 1000, 1272, 1273] A B 1 4 oneL W h hs (by decide) (by decide) (by decide)
  rw [awake_usable] at h1
  exact h1
theorem aw_skip (A : Option Addr) (W : World) (h : Rd W A (gs oneL)) : Calls Try.prog 50 #[.agg #[.int .i64 100, .slice A 1 1], .int .i64 1000, .int .i64 4] W fun r w' => r = .returned (.tuple #[.agg #[.int .i64 11546, .int .i64 11548, .int .i64 1], .int .i64 0]) ∧ Below W.heap.size W w' := by
  have h1 := skipOf_c 100 1000 4 A 1 oneL W h (by decide) (by decide)
  rw [awake_skip] at h1
  exact h1
theorem aw_field (A : Option Addr) (W : World) (h : Rd W A (gs oneL)) : Calls Try.prog 70 #[.agg #[.int .i64 100, .slice A 1 1], .agg #[.int .i64 100, .int .i64 (-100), .int .i64 100], .agg #[.int .i64 1000, .int .i64 1, .int .i64 4]] W fun r w' => r = .returned (.tuple #[.int .i64 1, .int .i64 0]) ∧ Below W.heap.size W w' := by
  have h1 := reflectsWith_c 100 100 (-100) 100 1000 1 4 A 1 oneL W h (by decide) (by decide) (by decide) (by decide)
  rw [awake_field] at h1
  exact h1
theorem aw_lowest (W : World) : Calls Try.prog 87 #[.int .i64 1, .int .i64 4] W fun r w' => r = .returned (.agg #[.int .i64 1, .int .i64 4]) ∧ Below W.heap.size W w' := by
  have h1 := lowest_c 1 4 W (by decide) (by decide) (by decide) (by decide)
  rw [show redQ 1 4 = (1, 4) by decide +kernel] at h1
  exact h1
set_option maxHeartbeats 4000000 in
theorem awake_c (w : World) : Calls Try.prog 15 #[] w fun r w' => r = .returned (.bool true) ∧ Below w.heap.size w w' := by
  go_enter Try.func15, Try.ntmps15
  go_upto_region 2 with (go_at_call 87; refine (aw_lowest _).mono ?_; rintro e_ w0 ⟨rfl, hb0⟩)
  obtain ⟨q, hq⟩ : ∃ q, w0.heap.size = q := ⟨_, rfl⟩
  obtain ⟨w1, hw1⟩ : ∃ w1, w0.alloc (.cells #[.int .i64 1, .int .i64 4] 26) = w1 := ⟨_, rfl⟩
  have k1 : Blk w1 q 26 [.int .i64 1, .int .i64 4] := by rw [← hw1, ← hq]; exact Blk.new w0 _ [_, _]
  have hB1 : Below w.heap.size w w1 := by rw [← hw1]; exact bel_alloc hb0 hb0.size _
  rw [hw1]
  try simp only [hq]
  have hz1 := hB1.size
  clear hw1 hb0 hq
  obtain ⟨c0, c1, _, _⟩ := blk_two k1
  have zq := k1.lt
  go_cut [2, 3] from 13 to 18 (fun x y wx => ∃ b : Nat, x = .pointer (some ⟨b, 0, none⟩) ∧ y = .int .i64 0 ∧ Blk wx b 55 [.int .i64 25706, .int .i64 25712] ∧ Below w1.heap.size w1 wx ∧ w1.heap.size ≤ b)
  case first =>
    have hSd : (∀ b o, b < w1.heap.size → w1.drew.cell? ⟨b, o, none⟩ = w1.cell? ⟨b, o, none⟩) ∧ Below w1.heap.size w1 w1.drew := kp (Below.refl _ _).drew
    refine wp_region_held (S := fun w' => (∀ b o, b < w1.heap.size → w'.cell? ⟨b, o, none⟩ = w1.cell? ⟨b, o, none⟩) ∧ Below w1.heap.size w1 w') (by kernel_rfl) ?_
    change wpAnyH _ _ _ _ _ _ _ _ w1.drew
    refine wpAnyH_take (i := 1) (v := ?_) rfl (by kernel_rfl) (by kernel_rfl) (by kernel_rfl) (fun _ _ _ h => h) (Or.inl ⟨by kernel_rfl, ?_⟩) (by assumption) ?_
    rotate_left 1
    · (intro w hSw; obtain ⟨hk1, hk2⟩ := hSw; go_simp <;> with_reducible rfl)
    simp only [Act.put, List.getElem_toArray, List.getElem_cons_zero, List.getElem_cons_succ, List.setIfInBounds_toArray, List.set_cons_zero, List.set_cons_succ]
    refine nextH2 (i := 0) (j := 6) (by kernel_rfl) rfl rfl (fun K hK => ?_) (fun K hK => ?_)
    · go_simp
      refine (law05Sky_c _).mono ?_
      rintro e_ wa ⟨⟨A1, rfl, ra1⟩, hbx⟩
      have hS' := kp (bel_tr hSd.2 hSd.2.size hbx)
      try dsimp only
      refine hK _ _ hS' ?_
      clear hK K
      clear hSd
      have hSd := hS'
      clear hS'
      refine nextH2 (i := 2) (j := 6) (by kernel_rfl) rfl rfl (fun K hK => ?_) (fun K hK => ?_)
      · go_simp
        refine (aw_ground _ _ ra1).mono ?_
        rintro e_ wx ⟨rfl, hby⟩
        have hS' := kp (bel_tr hSd.2 hSd.2.size hby)
        try dsimp only
        refine hK _ _ hS' ?_
        clear hK K
        clear hSd
        have hSd := hS'
        clear hS'
        refine wpAnyH_take (i := 3) (v := ?_) rfl (by kernel_rfl) (by kernel_rfl) (by kernel_rfl) (fun _ _ _ h => h) (Or.inl ⟨by kernel_rfl, ?_⟩) (by assumption) ?_
        rotate_left 1
        · (intro w hSw; obtain ⟨hk1, hk2⟩ := hSw; go_simp <;> with_reducible rfl)
        simp only [Act.put, List.getElem_toArray, List.getElem_cons_zero, List.getElem_cons_succ, List.setIfInBounds_toArray, List.set_cons_zero, List.set_cons_succ]
        refine wpAnyH_take (i := 4) (v := ?_) rfl (by kernel_rfl) (by kernel_rfl) (by kernel_rfl) (fun _ _ _ h => h) (Or.inl ⟨by kernel_rfl, ?_⟩) (by assumption) ?_
        rotate_left 1
        · (intro w hSw; obtain ⟨hk1, hk2⟩ := hSw; go_simp <;> with_reducible rfl)
        simp only [Act.put, List.getElem_toArray, List.getElem_cons_zero, List.getElem_cons_succ, List.setIfInBounds_toArray, List.set_cons_zero, List.set_cons_succ]
        refine wpAnyH_take (i := 5) (v := ?_) rfl (by kernel_rfl) (by kernel_rfl) (by kernel_rfl) (fun _ _ _ h => h) (Or.inl ⟨by kernel_rfl, ?_⟩) (by assumption) ?_
        rotate_left 1
        · (intro w hSw; obtain ⟨hk1, hk2⟩ := hSw; go_simp <;> with_reducible rfl)
        simp only [Act.put, List.getElem_toArray, List.getElem_cons_zero, List.getElem_cons_succ, List.setIfInBounds_toArray, List.set_cons_zero, List.set_cons_succ]
        refine nextH (i := 6) (by kernel_rfl) rfl (fun K hK => ?_)
        go_simp
        have hBl := Blk.new wx 55 [.int .i64 0, .int .i64 0]
        have hvr : w1.heap.size ≤ (wx).heap.size := hSd.2.size
        have hS' := kp (bel_alloc hSd.2 hSd.2.size (.cells #[.int .i64 0, .int .i64 0] 55))
        refine hK _ _ hS' ?_
        clear hK K
        clear hSd
        have hSd := hS'
        clear hS'
        obtain ⟨bb, hbb⟩ : ∃ bb, wx.heap.size = bb := ⟨_, rfl⟩
        obtain ⟨Wy, hWy⟩ : ∃ Wy, wx.alloc (.cells #[.int .i64 0, .int .i64 0] 55) = Wy := ⟨_, rfl⟩
        rw [hWy] at hSd hBl ⊢
        rw [hbb] at hBl hvr
        try simp only [hbb]
        clear hWy hbb
        obtain ⟨x0, x1, f0, f1⟩ := blk_two hBl
        have zb := hBl.lt
        refine nextH (i := 7) (by kernel_rfl) rfl (fun K hK => ?_)
        go_simp
        obtain ⟨WE, hWE⟩ : ∃ WE, ((Wy).setCell ⟨bb, 0, none⟩ (.int .i64 25706)).setCell ⟨bb, 1, none⟩ (.int .i64 25712) = WE := ⟨_, rfl⟩
        rw [hWE]
        have hE : Blk WE bb 55 [.int .i64 25706, .int .i64 25712] := by rw [← hWE]; exact (hBl.set_ 0 _).set_ 1 _
        have hbE : Below w1.heap.size w1 WE := by rw [← hWE]; exact (hSd.2.setCell hvr _).setCell hvr _
        clear hWE x0 x1 f0 f1
        refine hK _ _ (kp hbE) ?_
        clear hK K
        refine nextH (i := 8) (by kernel_rfl) rfl (fun K hK => ?_)
        go_simp
        refine hK _ _ (kp hbE) ?_
        clear hK K
        refine wpAnyH_done (by kernel_rfl) ?_ _
        go_wp2
        go_meet
        exact ⟨_, rfl, rfl, hE, hbE, hvr⟩
      · go_simp
        have hBl := Blk.new wa 55 [.int .i64 0, .int .i64 0]
        have hvr : w1.heap.size ≤ (wa).heap.size := hSd.2.size
        have hS' := kp (bel_alloc hSd.2 hSd.2.size (.cells #[.int .i64 0, .int .i64 0] 55))
        refine hK _ _ hS' ?_
        clear hK K
        clear hSd
        have hSd := hS'
        clear hS'
        obtain ⟨bb, hbb⟩ : ∃ bb, wa.heap.size = bb := ⟨_, rfl⟩
        obtain ⟨Wy, hWy⟩ : ∃ Wy, wa.alloc (.cells #[.int .i64 0, .int .i64 0] 55) = Wy := ⟨_, rfl⟩
        replace ra1 := ra1.bel (alloc_bel wa (.cells #[.int .i64 0, .int .i64 0] 55))
        rw [hWy] at hSd hBl ra1 ⊢
        rw [hbb] at hBl hvr
        try simp only [hbb]
        clear hWy hbb
        refine nextH (i := 2) (by kernel_rfl) rfl (fun K hK => ?_)
        go_simp
        refine (aw_ground _ _ ra1).mono ?_
        rintro e_ wx ⟨rfl, hby⟩
        have hS' := kp (bel_tr hSd.2 hSd.2.size hby)
        try dsimp only
        refine hK _ _ hS' ?_
        clear hK K
        clear hSd
        have hSd := hS'
        clear hS'
        replace hBl := hBl.bel hby
        refine wpAnyH_take (i := 3) (v := ?_) rfl (by kernel_rfl) (by kernel_rfl) (by kernel_rfl) (fun _ _ _ h => h) (Or.inl ⟨by kernel_rfl, ?_⟩) (by assumption) ?_
        rotate_left 1
        · (intro w hSw; obtain ⟨hk1, hk2⟩ := hSw; go_simp <;> with_reducible rfl)
        simp only [Act.put, List.getElem_toArray, List.getElem_cons_zero, List.getElem_cons_succ, List.setIfInBounds_toArray, List.set_cons_zero, List.set_cons_succ]
        refine wpAnyH_take (i := 4) (v := ?_) rfl (by kernel_rfl) (by kernel_rfl) (by kernel_rfl) (fun _ _ _ h => h) (Or.inl ⟨by kernel_rfl, ?_⟩) (by assumption) ?_
        rotate_left 1
        · (intro w hSw; obtain ⟨hk1, hk2⟩ := hSw; go_simp <;> with_reducible rfl)
        simp only [Act.put, List.getElem_toArray, List.getElem_cons_zero, List.getElem_cons_succ, List.setIfInBounds_toArray, List.set_cons_zero, List.set_cons_succ]
        refine wpAnyH_take (i := 5) (v := ?_) rfl (by kernel_rfl) (by kernel_rfl) (by kernel_rfl) (fun _ _ _ h => h) (Or.inl ⟨by kernel_rfl, ?_⟩) (by assumption) ?_
        rotate_left 1
        · (intro w hSw; obtain ⟨hk1, hk2⟩ := hSw; go_simp <;> with_reducible rfl)
        simp only [Act.put, List.getElem_toArray, List.getElem_cons_zero, List.getElem_cons_succ, List.setIfInBounds_toArray, List.set_cons_zero, List.set_cons_succ]
        obtain ⟨x0, x1, f0, f1⟩ := blk_two hBl
        have zb := hBl.lt
        refine nextH (i := 7) (by kernel_rfl) rfl (fun K hK => ?_)
        go_simp
        obtain ⟨WE, hWE⟩ : ∃ WE, ((wx).setCell ⟨bb, 0, none⟩ (.int .i64 25706)).setCell ⟨bb, 1, none⟩ (.int .i64 25712) = WE := ⟨_, rfl⟩
        rw [hWE]
        have hE : Blk WE bb 55 [.int .i64 25706, .int .i64 25712] := by rw [← hWE]; exact (hBl.set_ 0 _).set_ 1 _
        have hbE : Below w1.heap.size w1 WE := by rw [← hWE]; exact (hSd.2.setCell hvr _).setCell hvr _
        clear hWE x0 x1 f0 f1
        refine hK _ _ (kp hbE) ?_
        clear hK K
        refine nextH (i := 8) (by kernel_rfl) rfl (fun K hK => ?_)
        go_simp
        refine hK _ _ (kp hbE) ?_
        clear hK K
        refine wpAnyH_done (by kernel_rfl) ?_ _
        go_wp2
        go_meet
        exact ⟨_, rfl, rfl, hE, hbE, hvr⟩
    · go_simp
      have hB6 : Below w1.heap.size w1 (w1.alloc (.cells #[.int .i64 0, .int .i64 0] 55)).drew := (alloc_bel w1 _).drew
      have hBl0 : Blk (w1.alloc (.cells #[.int .i64 0, .int .i64 0] 55)).drew w1.heap.size 55 [.int .i64 0, .int .i64 0] := Blk.new w1 _ [_, _]
      refine hK _ _ (kp hB6) ?_
      clear hK K hSd
      have hSd := kp hB6
      have hvr : w1.heap.size ≤ w1.heap.size := Nat.le_refl _
      refine nextH (i := 0) (by kernel_rfl) rfl (fun K hK => ?_)
      go_simp
      refine (law05Sky_c _).mono ?_
      rintro e_ wa ⟨⟨A1, rfl, ra1⟩, hbx⟩
      have hS' := kp (bel_tr hSd.2 hSd.2.size hbx)
      try dsimp only
      refine hK _ _ hS' ?_
      clear hK K
      clear hSd
      have hSd := hS'
      clear hS'
      have hBl1 := hBl0.bel hbx
      clear hBl0 hbx hB6
      refine nextH (i := 2) (by kernel_rfl) rfl (fun K hK => ?_)
      go_simp
      refine (aw_ground _ _ ra1).mono ?_
      rintro e_ wx ⟨rfl, hby⟩
      have hS' := kp (bel_tr hSd.2 hSd.2.size hby)
      try dsimp only
      refine hK _ _ hS' ?_
      clear hK K
      clear hSd
      have hSd := hS'
      clear hS'
      have hBl := hBl1.bel hby
      clear hBl1 hby
      refine wpAnyH_take (i := 3) (v := ?_) rfl (by kernel_rfl) (by kernel_rfl) (by kernel_rfl) (fun _ _ _ h => h) (Or.inl ⟨by kernel_rfl, ?_⟩) (by assumption) ?_
      rotate_left 1
      · (intro w hSw; obtain ⟨hk1, hk2⟩ := hSw; go_simp <;> with_reducible rfl)
      simp only [Act.put, List.getElem_toArray, List.getElem_cons_zero, List.getElem_cons_succ, List.setIfInBounds_toArray, List.set_cons_zero, List.set_cons_succ]
      refine wpAnyH_take (i := 4) (v := ?_) rfl (by kernel_rfl) (by kernel_rfl) (by kernel_rfl) (fun _ _ _ h => h) (Or.inl ⟨by kernel_rfl, ?_⟩) (by assumption) ?_
      rotate_left 1
      · (intro w hSw; obtain ⟨hk1, hk2⟩ := hSw; go_simp <;> with_reducible rfl)
      simp only [Act.put, List.getElem_toArray, List.getElem_cons_zero, List.getElem_cons_succ, List.setIfInBounds_toArray, List.set_cons_zero, List.set_cons_succ]
      refine wpAnyH_take (i := 5) (v := ?_) rfl (by kernel_rfl) (by kernel_rfl) (by kernel_rfl) (fun _ _ _ h => h) (Or.inl ⟨by kernel_rfl, ?_⟩) (by assumption) ?_
      rotate_left 1
      · (intro w hSw; obtain ⟨hk1, hk2⟩ := hSw; go_simp <;> with_reducible rfl)
      simp only [Act.put, List.getElem_toArray, List.getElem_cons_zero, List.getElem_cons_succ, List.setIfInBounds_toArray, List.set_cons_zero, List.set_cons_succ]
      obtain ⟨x0, x1, f0, f1⟩ := blk_two hBl
      have zb := hBl.lt
      refine nextH (i := 7) (by kernel_rfl) rfl (fun K hK => ?_)
      go_simp
      obtain ⟨WE, hWE⟩ : ∃ WE, ((wx).setCell ⟨w1.heap.size, 0, none⟩ (.int .i64 25706)).setCell ⟨w1.heap.size, 1, none⟩ (.int .i64 25712) = WE := ⟨_, rfl⟩
      rw [hWE]
      have hE : Blk WE w1.heap.size 55 [.int .i64 25706, .int .i64 25712] := by rw [← hWE]; exact (hBl.set_ 0 _).set_ 1 _
      have hbE : Below w1.heap.size w1 WE := by rw [← hWE]; exact (hSd.2.setCell hvr _).setCell hvr _
      clear hWE x0 x1 f0 f1
      refine hK _ _ (kp hbE) ?_
      clear hK K
      refine nextH (i := 8) (by kernel_rfl) rfl (fun K hK => ?_)
      go_simp
      refine hK _ _ (kp hbE) ?_
      clear hK K
      refine wpAnyH_done (by kernel_rfl) ?_ _
      go_wp2
      go_meet
      exact ⟨_, rfl, rfl, hE, hbE, hvr⟩
  obtain ⟨b, rfl, rfl, kb, hbb, hbge⟩ := hcut
  have k1c := k1.bel hbb
  have hB2 : Below w.heap.size w wc := bel_tr hB1 hz1 hbb
  clear c0 c1 k1 hbb hB1 hz1 zq hbge
  obtain ⟨c0, c1, _, _⟩ := blk_two k1c
  have zq := k1c.lt
  have zqb := kb.lt
  go_upto_region 3 with fail
  have hSd : (∀ b o, b < wc.heap.size → wc.drew.cell? ⟨b, o, none⟩ = wc.cell? ⟨b, o, none⟩) ∧ Below wc.heap.size wc wc.drew := kp (Below.refl _ _).drew
  refine wp_region_held (S := fun w' => (∀ b o, b < wc.heap.size → w'.cell? ⟨b, o, none⟩ = wc.cell? ⟨b, o, none⟩) ∧ Below wc.heap.size wc w') (by kernel_rfl) ?_
  change wpAnyH _ _ _ _ _ _ _ _ wc.drew
  refine wpAnyH_take (i := 1) (v := ?_) rfl (by kernel_rfl) (by kernel_rfl) (by kernel_rfl) (fun _ _ _ h => h) (Or.inl ⟨by kernel_rfl, ?_⟩) (by assumption) ?_
  rotate_left 1
  · (intro w hSw; obtain ⟨hk1, hk2⟩ := hSw; go_simp <;> with_reducible rfl)
  simp only [Act.put, List.getElem_toArray, List.getElem_cons_zero, List.getElem_cons_succ, List.setIfInBounds_toArray, List.set_cons_zero, List.set_cons_succ]
  refine nextH (i := 0) (by kernel_rfl) rfl (fun K hK => ?_)
  go_simp
  refine (law05Sky_c _).mono ?_
  rintro e_ wa ⟨⟨A1, rfl, ra1⟩, hbx⟩
  have hS' := kp (bel_tr hSd.2 hSd.2.size hbx)
  try dsimp only
  refine hK _ _ hS' ?_
  clear hK K
  clear hSd
  have hSd := hS'
  clear hS'
  refine nextH (i := 2) (by kernel_rfl) rfl (fun K hK => ?_)
  go_simp
  refine (aw_secant _ _ ra1).mono ?_
  rintro e_ w3 ⟨rfl, hby⟩
  have hS' := kp (bel_tr hSd.2 hSd.2.size hby)
  try dsimp only
  refine hK _ _ hS' ?_
  clear hK K
  clear hSd
  have hSd := hS'
  clear hS'
  refine wpAnyH_take (i := 3) (v := ?_) rfl (by kernel_rfl) (by kernel_rfl) (by kernel_rfl) (fun _ _ _ h => h) (Or.inl ⟨by kernel_rfl, ?_⟩) (by assumption) ?_
  rotate_left 1
  · (intro w hSw; obtain ⟨hk1, hk2⟩ := hSw; go_simp <;> with_reducible rfl)
  simp only [Act.put, List.getElem_toArray, List.getElem_cons_zero, List.getElem_cons_succ, List.setIfInBounds_toArray, List.set_cons_zero, List.set_cons_succ]
  refine wpAnyH_take (i := 4) (v := ?_) rfl (by kernel_rfl) (by kernel_rfl) (by kernel_rfl) (fun _ _ _ h => h) (Or.inl ⟨by kernel_rfl, ?_⟩) (by assumption) ?_
  rotate_left 1
  · (intro w hSw; obtain ⟨hk1, hk2⟩ := hSw; go_simp <;> with_reducible rfl)
  simp only [Act.put, List.getElem_toArray, List.getElem_cons_zero, List.getElem_cons_succ, List.setIfInBounds_toArray, List.set_cons_zero, List.set_cons_succ]
  refine wpAnyH_take (i := 5) (v := ?_) rfl (by kernel_rfl) (by kernel_rfl) (by kernel_rfl) (fun _ _ _ h => h) (Or.inl ⟨by kernel_rfl, ?_⟩) (by assumption) ?_
  rotate_left 1
  · (intro w hSw; obtain ⟨hk1, hk2⟩ := hSw; go_simp <;> with_reducible rfl)
  simp only [Act.put, List.getElem_toArray, List.getElem_cons_zero, List.getElem_cons_succ, List.setIfInBounds_toArray, List.set_cons_zero, List.set_cons_succ]
  refine wpAnyH_take (i := 6) (v := ?_) rfl (by kernel_rfl) (by kernel_rfl) (by kernel_rfl) (fun _ _ _ h => h) (Or.inl ⟨by kernel_rfl, ?_⟩) (by assumption) ?_
  rotate_left 1
  · (intro w hSw; obtain ⟨hk1, hk2⟩ := hSw; go_simp <;> with_reducible rfl)
  simp only [Act.put, List.getElem_toArray, List.getElem_cons_zero, List.getElem_cons_succ, List.setIfInBounds_toArray, List.set_cons_zero, List.set_cons_succ]
  refine wpAnyH_take (i := 7) (v := ?_) rfl (by kernel_rfl) (by kernel_rfl) (by kernel_rfl) (fun _ _ _ h => h) (Or.inl ⟨by kernel_rfl, ?_⟩) (by assumption) ?_
  rotate_left 1
  · (intro w hSw; obtain ⟨hk1, hk2⟩ := hSw; go_simp <;> with_reducible rfl)
  simp only [Act.put, List.getElem_toArray, List.getElem_cons_zero, List.getElem_cons_succ, List.setIfInBounds_toArray, List.set_cons_zero, List.set_cons_succ]
  refine wpAnyH_done (by kernel_rfl) ?_ _
  have k13 := k1c.bel hSd.2
  have kb3 := kb.bel hSd.2
  have hB3 : Below w.heap.size w w3 := bel_tr hB2 hB2.size hSd.2
  clear hSd hbx hby ra1 c0 c1 k1c kb hB2 zq zqb
  go_upto_region 5 with (first
    | (go_at_call 89; refine (law05One_c _).mono ?_; rintro e_ w4 ⟨⟨A4, rfl, ra4⟩, hb4⟩)
    | (go_at_call 64; refine (aw_usable _ _ _ (ra4.bel (alloc_bel _ _)) (rd_new4 _ 900 1000 1272 1273)).mono ?_; rintro e_ w5 ⟨rfl, hb5⟩))
  have hB35 : Below w3.heap.size w3 w5 := bel_tr (bel_alloc hb4 hb4.size _) (by have := hb4.size; simp; omega) hb5
  obtain ⟨v, hv⟩ : ∃ v, w5.heap.size = v := ⟨_, rfl⟩
  obtain ⟨w6, hw6⟩ : ∃ w6, w5.alloc (.cells #[.int .i64 1272, .int .i64 2, .int .i64 1272] 111) = w6 := ⟨_, rfl⟩
  have b6 : Below w5.heap.size w5 w6 := by rw [← hw6]; exact alloc_bel _ _
  have kU6 : Blk w6 v 111 [.int .i64 1272, .int .i64 2, .int .i64 1272] := by rw [← hw6, ← hv]; exact Blk.new w5 _ [_, _, _]
  rw [hw6]
  try simp only [hv]
  have k16 := (k13.bel hB35).bel b6
  have kb6 := (kb3.bel hB35).bel b6
  have hB6 : Below w.heap.size w w6 := bel_tr (bel_tr hB3 hB3.size hB35) (bel_tr hB3 hB3.size hB35).size b6
  clear hw6 hv b6 hB35 hb5 hb4 ra4 k13 kb3 hB3
  go_upto_region 6 with (first
    | (go_at_call 89; refine (law05One_c _).mono ?_; rintro e_ w7 ⟨⟨A7, rfl, ra7⟩, hb7⟩)
    | (go_at_call 50; refine (aw_skip _ _ ra7).mono ?_; rintro e_ w8 ⟨rfl, hb8⟩))
  have hB68 : Below w6.heap.size w6 w8 := bel_tr hb7 hb7.size hb8
  obtain ⟨u, hu⟩ : ∃ u, w8.heap.size = u := ⟨_, rfl⟩
  obtain ⟨w9, hw9⟩ : ∃ w9, w8.alloc (.cells #[.int .i64 11546, .int .i64 11548, .int .i64 1] 87) = w9 := ⟨_, rfl⟩
  have b9 : Below w8.heap.size w8 w9 := by rw [← hw9]; exact alloc_bel _ _
  have kS9 : Blk w9 u 87 [.int .i64 11546, .int .i64 11548, .int .i64 1] := by rw [← hw9, ← hu]; exact Blk.new w8 _ [_, _, _]
  rw [hw9]
  try simp only [hu]
  have k19 := (k16.bel hB68).bel b9
  have kb9 := (kb6.bel hB68).bel b9
  have kU9 := (kU6.bel hB68).bel b9
  have hB9 : Below w.heap.size w w9 := bel_tr (bel_tr hB6 hB6.size hB68) (bel_tr hB6 hB6.size hB68).size b9
  clear hw9 hu b9 hB68 hb7 hb8 ra7 k16 kb6 kU6 hB6
  obtain ⟨c0, c1, _, _⟩ := blk_two k19
  have zq := k19.lt
  have hSd : (∀ b o, b < w9.heap.size → w9.drew.cell? ⟨b, o, none⟩ = w9.cell? ⟨b, o, none⟩) ∧ Below w9.heap.size w9 w9.drew := kp (Below.refl _ _).drew
  refine wp_region_held (S := fun w' => (∀ b o, b < w9.heap.size → w'.cell? ⟨b, o, none⟩ = w9.cell? ⟨b, o, none⟩) ∧ Below w9.heap.size w9 w') (by kernel_rfl) ?_
  change wpAnyH _ _ _ _ _ _ _ _ w9.drew
  refine wpAnyH_take (i := 1) (v := ?_) rfl (by kernel_rfl) (by kernel_rfl) (by kernel_rfl) (fun _ _ _ h => h) (Or.inl ⟨by kernel_rfl, ?_⟩) (by assumption) ?_
  rotate_left 1
  · (intro w hSw; obtain ⟨hk1, hk2⟩ := hSw; go_simp <;> with_reducible rfl)
  simp only [Act.put, List.getElem_toArray, List.getElem_cons_zero, List.getElem_cons_succ, List.setIfInBounds_toArray, List.set_cons_zero, List.set_cons_succ]
  refine wpAnyH_take (i := 2) (v := ?_) rfl (by kernel_rfl) (by kernel_rfl) (by kernel_rfl) (fun _ _ _ h => h) (Or.inl ⟨by kernel_rfl, ?_⟩) (by assumption) ?_
  rotate_left 1
  · (intro w hSw; obtain ⟨hk1, hk2⟩ := hSw; go_simp <;> with_reducible rfl)
  simp only [Act.put, List.getElem_toArray, List.getElem_cons_zero, List.getElem_cons_succ, List.setIfInBounds_toArray, List.set_cons_zero, List.set_cons_succ]
  refine wpAnyH_take (i := 3) (v := ?_) rfl (by kernel_rfl) (by kernel_rfl) (by kernel_rfl) (fun _ _ _ h => h) (Or.inl ⟨by kernel_rfl, ?_⟩) (by assumption) ?_
  rotate_left 1
  · (intro w hSw; obtain ⟨hk1, hk2⟩ := hSw; go_simp <;> with_reducible rfl)
  simp only [Act.put, List.getElem_toArray, List.getElem_cons_zero, List.getElem_cons_succ, List.setIfInBounds_toArray, List.set_cons_zero, List.set_cons_succ]
  refine wpAnyH_take (i := 4) (v := ?_) rfl (by kernel_rfl) (by kernel_rfl) (by kernel_rfl) (fun _ _ _ h => h) (Or.inl ⟨by kernel_rfl, ?_⟩) (by assumption) ?_
  rotate_left 1
  · (intro w hSw; obtain ⟨hk1, hk2⟩ := hSw; go_simp <;> with_reducible rfl)
  simp only [Act.put, List.getElem_toArray, List.getElem_cons_zero, List.getElem_cons_succ, List.setIfInBounds_toArray, List.set_cons_zero, List.set_cons_succ]
  refine nextH (i := 0) (by kernel_rfl) rfl (fun K hK => ?_)
  go_simp
  refine (law05One_c _).mono ?_
  rintro e_ wa ⟨⟨A1, rfl, ra1⟩, hbx⟩
  have hS' := kp (bel_tr hSd.2 hSd.2.size hbx)
  try dsimp only
  refine hK _ _ hS' ?_
  clear hK K
  clear hSd
  have hSd := hS'
  clear hS'
  refine nextH (i := 5) (by kernel_rfl) rfl (fun K hK => ?_)
  go_simp
  refine (aw_field _ _ ra1).mono ?_
  rintro e_ wz ⟨rfl, hby⟩
  have hS' := kp (bel_tr hSd.2 hSd.2.size hby)
  try dsimp only
  refine hK _ _ hS' ?_
  clear hK K
  clear hSd
  have hSd := hS'
  clear hS'
  refine wpAnyH_take (i := 6) (v := ?_) rfl (by kernel_rfl) (by kernel_rfl) (by kernel_rfl) (fun _ _ _ h => h) (Or.inl ⟨by kernel_rfl, ?_⟩) (by assumption) ?_
  rotate_left 1
  · (intro w hSw; obtain ⟨hk1, hk2⟩ := hSw; go_simp <;> with_reducible rfl)
  simp only [Act.put, List.getElem_toArray, List.getElem_cons_zero, List.getElem_cons_succ, List.setIfInBounds_toArray, List.set_cons_zero, List.set_cons_succ]
  refine wpAnyH_take (i := 7) (v := ?_) rfl (by kernel_rfl) (by kernel_rfl) (by kernel_rfl) (fun _ _ _ h => h) (Or.inl ⟨by kernel_rfl, ?_⟩) (by assumption) ?_
  rotate_left 1
  · (intro w hSw; obtain ⟨hk1, hk2⟩ := hSw; go_simp <;> with_reducible rfl)
  simp only [Act.put, List.getElem_toArray, List.getElem_cons_zero, List.getElem_cons_succ, List.setIfInBounds_toArray, List.set_cons_zero, List.set_cons_succ]
  refine wpAnyH_take (i := 8) (v := ?_) rfl (by kernel_rfl) (by kernel_rfl) (by kernel_rfl) (fun _ _ _ h => h) (Or.inl ⟨by kernel_rfl, ?_⟩) (by assumption) ?_
  rotate_left 1
  · (intro w hSw; obtain ⟨hk1, hk2⟩ := hSw; go_simp <;> with_reducible rfl)
  simp only [Act.put, List.getElem_toArray, List.getElem_cons_zero, List.getElem_cons_succ, List.setIfInBounds_toArray, List.set_cons_zero, List.set_cons_succ]
  refine wpAnyH_take (i := 9) (v := ?_) rfl (by kernel_rfl) (by kernel_rfl) (by kernel_rfl) (fun _ _ _ h => h) (Or.inl ⟨by kernel_rfl, ?_⟩) (by assumption) ?_
  rotate_left 1
  · (intro w hSw; obtain ⟨hk1, hk2⟩ := hSw; go_simp <;> with_reducible rfl)
  simp only [Act.put, List.getElem_toArray, List.getElem_cons_zero, List.getElem_cons_succ, List.setIfInBounds_toArray, List.set_cons_zero, List.set_cons_succ]
  refine wpAnyH_take (i := 10) (v := ?_) rfl (by kernel_rfl) (by kernel_rfl) (by kernel_rfl) (fun _ _ _ h => h) (Or.inl ⟨by kernel_rfl, ?_⟩) (by assumption) ?_
  rotate_left 1
  · (intro w hSw; obtain ⟨hk1, hk2⟩ := hSw; go_simp <;> with_reducible rfl)
  simp only [Act.put, List.getElem_toArray, List.getElem_cons_zero, List.getElem_cons_succ, List.setIfInBounds_toArray, List.set_cons_zero, List.set_cons_succ]
  refine wpAnyH_done (by kernel_rfl) ?_ _
  have kbz := kb9.bel hSd.2
  have kUz := kU9.bel hSd.2
  have kSz := kS9.bel hSd.2
  have hBz : Below w.heap.size w wz := bel_tr hB9 hB9.size hSd.2
  clear hSd hbx hby ra1 c0 c1 k19 kb9 kU9 kS9 hB9 zq
  have x0 := kbz.cell 0; have x1 := kbz.cell 1; simp only [List.getElem?_cons_zero, List.getElem?_cons_succ] at x0 x1
  have y0 := kUz.cell 0; have y1 := kUz.cell 1; have y2 := kUz.cell 2; simp only [List.getElem?_cons_zero, List.getElem?_cons_succ] at y0 y1 y2
  have z0 := kSz.cell 0; have z1 := kSz.cell 1; have z2 := kSz.cell 2; simp only [List.getElem?_cons_zero, List.getElem?_cons_succ] at z0 z1 z2
  go_wp2
  go_ret
  exact ⟨rfl, hBz⟩
end Go.Proofs.Ytkcjiejdjdcbeaa
