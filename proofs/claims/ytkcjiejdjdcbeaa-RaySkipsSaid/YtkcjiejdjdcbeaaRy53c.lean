/- The law of skips, ways c. -/
import Derived.Test.YtkcjiejdjdcbeaaRy43
import Derived.Test.YtkcjiejdjdcbeaaRB
import Derived.Test.YtkcjiejdjdcbeaaRy31
import Derived.Test.YtkcjiejdjdcbeaaRy33
import Derived.Test.YtkcjiejdjdcbeaaRy29
import Derived.Test.YtkcjiejdjdcbeaaRy28
set_option linter.unusedSimpArgs false
set_option linter.unusedVariables false
set_option linter.unusedSimpArgs false
set_option linter.unusedVariables false
namespace Go.Proofs.Ytkcjiejdjdcbeaa
open Go.RowKit
set_option maxRecDepth 100000

set_option maxHeartbeats 16000000 in
theorem skipsLaw_ob (H f x0 x1 : Int) (A : Option Addr) (c : Nat) (l : List G) (w : World) (hr : Rd w A (gs l)) (hl : l.length ≤ 14) (hg : gridE x0 = 0) (hx : outB x1 0 (x0 - 1) = false) (he : (skyE H l).2 = 0) (hf : freqE f ≠ 0) :
    Calls Try.prog 7 #[.agg #[.int .i64 H, .slice A l.length c], .int .i64 f, .agg #[.int .i64 x0, .int .i64 x1]] w fun r w' => r = .returned (.bool true) ∧ Below w.heap.size w w' := by
  have HCP := hide (fun W (h : Rd W A (gs l)) => copySky_c H A c l W h (by omega))
  have HFW := hide (fun W => few_c H A c l W)
  rw [decide_eq_true (show (l.length : Int) ≤ 14 by omega)] at HFW
  have HGE := hide (fun W => refGridErr_c x0 W)
  have HSE := hide (fun W (h : Rd W A (gs l)) => refSkyErr_c H A c l W h (by omega))
  have HFE := hide (fun W => frequencyErr_c f W)
  have HLO := hide (fun W => launchOf_c x0 x1 W)
  have HSK := hide (fun A' c' W (h : Rd W A' (gs l)) h' => skipOf_c H f x0 A' c' l W h (by omega) h')
  have hg1 := gridE_zero hg
  have HWI := hide (fun W => within_c x1 0 (x0 - 1) W)
  rw [hx] at HWI
  have hle : lauE x0 x1 = 0 := by unfold lauE; rw [hg, wrap64_id (by omega) (by omega), hx]; rfl
  rw [show lauQ x0 x1 = (redQ x1 x0, 0) by unfold lauQ; rw [if_neg (by rw [hle]; simp)]] at HLO
  have hx1 := outB_false.1 hx
  have HLA := hide (fun W => refLaunch_c x0 x1 W (by omega) (by omega) (by omega) (by omega))
  generalize redQ x1 x0 = z at HLO HLA
  obtain ⟨za, zb⟩ := z
  have hsk : skpE H f x0 l = freqE f := by unfold skpE; rw [he]; simp [firstE, hf]
  rw [show skpQ H f x0 l = ((0, 0, 0), freqE f) by unfold skpQ; rw [if_pos (by rw [hsk]; exact hf), hsk]] at HSK
  rw [he] at HSE
  generalize freqE f = ef at HSK HFE hf
  have e1 : (ef != 0) = true := by simpa using hf
  have e2 : (ef == 0) = false := by simpa using hf
  have e9 : ¬ ef = 0 := hf
  clear hsk
  dsimp only at HSK HLO
  dsimp only at HLA
  rw [hg] at HGE
  clear hle
  try clear he
  try clear hf
  try clear hfd
  try clear hg
  try clear hx
  obtain ⟨q, hq⟩ : ∃ q, w.heap.size = q := ⟨_, rfl⟩
  obtain ⟨q1, hq1⟩ : ∃ q1, q + 1 = q1 := ⟨_, rfl⟩
  obtain ⟨Wa, hWa⟩ : ∃ Wa, w.alloc (.cells #[.int .i64 H, .slice A l.length c] 24) = Wa := ⟨_, rfl⟩
  have ba : Below w.heap.size w Wa := by rw [← hWa]; exact alloc_bel _ _
  have sa : Wa.heap.size = q1 := by rw [← hWa, ← hq1, ← hq]; simp
  have ka : Blk Wa q 24 [.int .i64 H, .slice A l.length c] := by rw [← hWa, ← hq]; exact Blk.new w _ [_, _]
  obtain ⟨w0, hWb⟩ : ∃ w0, Wa.alloc (.cells #[.int .i64 x0, .int .i64 x1] 83) = w0 := ⟨_, rfl⟩
  have bb : Below Wa.heap.size Wa w0 := by rw [← hWb]; exact alloc_bel _ _
  have kL0 : Blk w0 q1 83 [.int .i64 x0, .int .i64 x1] := by rw [← hWb, ← sa]; exact Blk.new Wa _ [_, _]
  have hAB : (w.alloc (.cells #[.int .i64 H, .slice A l.length c] 24)).alloc (.cells #[.int .i64 x0, .int .i64 x1] 83) = w0 := by rw [hWa, hWb]
  have HW := hide hAB
  have kS0 := ka.bel bb
  have hr0 := (hr.bel ba).bel bb
  have hB0 : Below q w w0 := by
    rw [hq] at ba
    exact ba.trans (bb.mono (by omega))
  have z0 : q ≤ w0.heap.size := by have := kS0.lt; omega
  clear hAB hWa hWb ba bb ka sa
  have ykS_0 := kS0.lt
  have ykL_0 := kL0.lt
  have s0 := kS0.cell 0; have s1 := kS0.cell 1; simp only [List.getElem?_cons_zero, List.getElem?_cons_succ] at s0 s1
  have t0 := kL0.cell 0; have t1 := kL0.cell 1; simp only [List.getElem?_cons_zero, List.getElem?_cons_succ] at t0 t1
  go_enter Try.func7, Try.ntmps7
  go_upto_region 1 with fail
  try simp only [World.size_alloc, hq, hq1]
  rw [HW.out]
  go_upto_region 3 with (go_at_call 15; refine (awake_c _).mono ?_; rintro e_ w1 ⟨rfl, hb1⟩)
  have hb0_1 : Below w0.heap.size w0 w1 := hb1
  have kS1 := kS0.bel hb0_1
  have kL1 := kL0.bel hb0_1
  have hr1 := hr0.bel hb0_1
  have hB1 : Below q w w1 := hB0.trans (hb0_1.mono z0)
  have z1 : q ≤ w1.heap.size := by have := hb0_1.size; omega
  have ykS_1 := kS1.lt
  have ykL_1 := kL1.lt
  clear s0 s1 t0 t1 hB0 z0 hb0_1 kS0 kL0 hr0 ykS_0 ykL_0
  have s0 := kS1.cell 0; have s1 := kS1.cell 1; simp only [List.getElem?_cons_zero, List.getElem?_cons_succ] at s0 s1
  have t0 := kL1.cell 0; have t1 := kL1.cell 1; simp only [List.getElem?_cons_zero, List.getElem?_cons_succ] at t0 t1
  go_upto_region 5 with (go_at_call 16; refine (HFW.out _).mono ?_; rintro e_ w2 ⟨rfl, hb2⟩)
  have hb1_2 : Below w1.heap.size w1 w2 := hb2
  have kS2 := kS1.bel hb1_2
  have kL2 := kL1.bel hb1_2
  have hr2 := hr1.bel hb1_2
  have hB2 : Below q w w2 := hB1.trans (hb1_2.mono z1)
  have z2 : q ≤ w2.heap.size := by have := hb1_2.size; omega
  have ykS_2 := kS2.lt
  have ykL_2 := kL2.lt
  clear s0 s1 t0 t1 hB1 z1 hb1_2 kS1 kL1 hr1 ykS_1 ykL_1
  have s0 := kS2.cell 0; have s1 := kS2.cell 1; simp only [List.getElem?_cons_zero, List.getElem?_cons_succ] at s0 s1
  have t0 := kL2.cell 0; have t1 := kL2.cell 1; simp only [List.getElem?_cons_zero, List.getElem?_cons_succ] at t0 t1
  go_upto_region 6 with (go_at_call 49; refine (HLO.out _).mono ?_; rintro e_ w3 ⟨rfl, hb3⟩)
  obtain ⟨b1, hb1e⟩ : ∃ b1, w3.heap.size = b1 := ⟨_, rfl⟩
  obtain ⟨w4, hw4⟩ : ∃ w4, w3.alloc (.cells #[.int .i64 za, .int .i64 zb] 26) = w4 := ⟨_, rfl⟩
  have b34 : Below w3.heap.size w3 w4 := by rw [← hw4]; exact alloc_bel _ _
  have kF4 : Blk w4 b1 26 [.int .i64 za, .int .i64 zb] := by rw [← hw4, ← hb1e]; exact Blk.new w3 _ [_, _]
  rw [hw4]
  try simp only [hb1e]
  clear hw4 hb1e
  have hb24 := bel_tr hb3 hb3.size b34
  have hb2_4 : Below w2.heap.size w2 w4 := hb24
  have kS4 := kS2.bel hb2_4
  have kL4 := kL2.bel hb2_4
  have hr4 := hr2.bel hb2_4
  have hB4 : Below q w w4 := hB2.trans (hb2_4.mono z2)
  have z4 : q ≤ w4.heap.size := by have := hb2_4.size; omega
  have ykS_4 := kS4.lt
  have ykL_4 := kL4.lt
  clear s0 s1 t0 t1 hB2 z2 hb2_4 kS2 kL2 hr2 ykS_2 ykL_2
  have s0 := kS4.cell 0; have s1 := kS4.cell 1; simp only [List.getElem?_cons_zero, List.getElem?_cons_succ] at s0 s1
  have t0 := kL4.cell 0; have t1 := kL4.cell 1; simp only [List.getElem?_cons_zero, List.getElem?_cons_succ] at t0 t1
  clear hb24 hb3 b34
  have ykF_4 := kF4.lt
  have p0 := kF4.cell 0; have p1 := kF4.cell 1; simp only [List.getElem?_cons_zero, List.getElem?_cons_succ] at p0 p1
  go_cut [9, 10] from 28 to 36 (fun x y wx => ∃ b : Nat, x = .pointer (some ⟨b, 0, none⟩) ∧ y = .int .i64 ef ∧ Blk wx b 87 [.int .i64 0, .int .i64 0, .int .i64 0] ∧ Below w4.heap.size w4 wx ∧ w4.heap.size ≤ b)
  case first =>
    have hSd : (∀ b o, b < w4.heap.size → w4.drew.cell? ⟨b, o, none⟩ = w4.cell? ⟨b, o, none⟩) ∧ Below w4.heap.size w4 w4.drew := kp (Below.refl _ _).drew
    refine wp_region_held (S := fun w' => (∀ b o, b < w4.heap.size → w'.cell? ⟨b, o, none⟩ = w4.cell? ⟨b, o, none⟩) ∧ Below w4.heap.size w4 w') (by kernel_rfl) ?_
    change wpAnyH _ _ _ _ _ _ _ _ w4.drew
    refine wpAnyH_take (i := 0) (v := ?_) rfl (by kernel_rfl) (by kernel_rfl) (by kernel_rfl) (fun _ _ _ h => h) (Or.inl ⟨by kernel_rfl, ?_⟩) (by assumption) ?_
    rotate_left 1
    · (intro w hSw; obtain ⟨hk1, hk2⟩ := hSw; go_simp <;> with_reducible rfl)
    simp only [Act.put, List.getElem_toArray, List.getElem_cons_zero, List.setIfInBounds_toArray, List.set_cons_zero, List.set_cons_succ]
    refine wpAnyH_take (i := 2) (v := ?_) rfl (by kernel_rfl) (by kernel_rfl) (by kernel_rfl) (fun _ _ _ h => h) (Or.inl ⟨by kernel_rfl, ?_⟩) (by assumption) ?_
    rotate_left 1
    · (intro w hSw; obtain ⟨hk1, hk2⟩ := hSw; go_simp <;> with_reducible rfl)
    simp only [Act.put, List.getElem_toArray, List.getElem_cons_zero, List.getElem_cons_succ, List.setIfInBounds_toArray, List.set_cons_zero, List.set_cons_succ]
    refine wpAnyH_take (i := 3) (v := ?_) rfl (by kernel_rfl) (by kernel_rfl) (by kernel_rfl) (fun _ _ _ h => h) (Or.inl ⟨by kernel_rfl, ?_⟩) (by assumption) ?_
    rotate_left 1
    · (intro w hSw; obtain ⟨hk1, hk2⟩ := hSw; go_simp <;> with_reducible rfl)
    simp only [Act.put, List.getElem_toArray, List.getElem_cons_zero, List.getElem_cons_succ, List.setIfInBounds_toArray, List.set_cons_zero, List.set_cons_succ]
    refine wpAnyH_take (i := 4) (v := ?_) rfl (by kernel_rfl) (by kernel_rfl) (by kernel_rfl) (fun _ _ _ h => h) (Or.inl ⟨by kernel_rfl, ?_⟩) (by assumption) ?_
    rotate_left 1
    · (intro w hSw; obtain ⟨hk1, hk2⟩ := hSw; go_simp <;> with_reducible rfl)
    simp only [Act.put, List.getElem_toArray, List.getElem_cons_zero, List.getElem_cons_succ, List.setIfInBounds_toArray, List.set_cons_zero, List.set_cons_succ]
    refine nextH2 (i := 1) (j := 9) (by kernel_rfl) rfl rfl (fun K hK => ?_) (fun K hK => ?_)
    ·
      go_simp
      refine (HCP.out _ (hr4.bel hSd.2)).mono ?_
      rintro e_ wa ⟨⟨A1, c1, rfl, ra1, rc1⟩, hbx⟩
      have hS' := kp (bel_tr hSd.2 hSd.2.size hbx)
      try dsimp only
      refine hK _ _ hS' ?_
      clear hK K hSd
      have hSd := hS'
      clear hS'
      refine nextH2 (i := 5) (j := 9) (by kernel_rfl) rfl rfl (fun K hK => ?_) (fun K hK => ?_)
      ·
        go_simp
        refine (HSK.out _ _ _ ra1 rc1).mono ?_
        rintro e_ wx ⟨rfl, hby⟩
        have hS' := kp (bel_tr hSd.2 hSd.2.size hby)
        try dsimp only
        refine hK _ _ hS' ?_
        clear hK K hSd
        have hSd := hS'
        clear hS'
        refine wpAnyH_take (i := 6) (v := ?_) rfl (by kernel_rfl) (by kernel_rfl) (by kernel_rfl) (fun _ _ _ h => h) (Or.inl ⟨by kernel_rfl, ?_⟩) (by assumption) ?_
        rotate_left 1
        · (intro w hSw; obtain ⟨hk1, hk2⟩ := hSw; go_simp <;> with_reducible rfl)
        simp only [Act.put, List.getElem_toArray, List.getElem_cons_zero, List.getElem_cons_succ, List.setIfInBounds_toArray, List.set_cons_zero, List.set_cons_succ]
        refine wpAnyH_take (i := 7) (v := ?_) rfl (by kernel_rfl) (by kernel_rfl) (by kernel_rfl) (fun _ _ _ h => h) (Or.inl ⟨by kernel_rfl, ?_⟩) (by assumption) ?_
        rotate_left 1
        · (intro w hSw; obtain ⟨hk1, hk2⟩ := hSw; go_simp <;> with_reducible rfl)
        simp only [Act.put, List.getElem_toArray, List.getElem_cons_zero, List.getElem_cons_succ, List.setIfInBounds_toArray, List.set_cons_zero, List.set_cons_succ]
        refine wpAnyH_take (i := 8) (v := ?_) rfl (by kernel_rfl) (by kernel_rfl) (by kernel_rfl) (fun _ _ _ h => h) (Or.inl ⟨by kernel_rfl, ?_⟩) (by assumption) ?_
        rotate_left 1
        · (intro w hSw; obtain ⟨hk1, hk2⟩ := hSw; go_simp <;> with_reducible rfl)
        simp only [Act.put, List.getElem_toArray, List.getElem_cons_zero, List.getElem_cons_succ, List.setIfInBounds_toArray, List.set_cons_zero, List.set_cons_succ]
        refine nextH (i := 9) (by kernel_rfl) rfl (fun K hK => ?_)
        go_simp
        have hBl := Blk.new wx 87 [.int .i64 0, .int .i64 0, .int .i64 0]
        have hvr : w4.heap.size ≤ (wx).heap.size := hSd.2.size
        have hS' := kp (bel_alloc hSd.2 hSd.2.size (.cells #[.int .i64 0, .int .i64 0, .int .i64 0] 87))
        refine hK _ _ hS' ?_
        clear hK K hSd
        have hSd := hS'
        clear hS'
        obtain ⟨bb, hbb⟩ : ∃ bb, wx.heap.size = bb := ⟨_, rfl⟩
        obtain ⟨Wy, hWy⟩ : ∃ Wy, wx.alloc (.cells #[.int .i64 0, .int .i64 0, .int .i64 0] 87) = Wy := ⟨_, rfl⟩
        rw [hWy] at hSd hBl ⊢
        rw [hbb] at hBl hvr
        try simp only [hbb]
        clear hWy hbb
        obtain ⟨x0, x1, x2⟩ : (Wy).cell? ⟨bb, 0, none⟩ = some (.int .i64 0) ∧ (Wy).cell? ⟨bb, 1, none⟩ = some (.int .i64 0) ∧ (Wy).cell? ⟨bb, 2, none⟩ = some (.int .i64 0) := ⟨hBl.cell 0, hBl.cell 1, hBl.cell 2⟩
        obtain ⟨f0, f1, f2⟩ : (Wy).frozen? ⟨bb, 0, none⟩ = false ∧ (Wy).frozen? ⟨bb, 1, none⟩ = false ∧ (Wy).frozen? ⟨bb, 2, none⟩ = false := ⟨hBl.frozen 0, hBl.frozen 1, hBl.frozen 2⟩
        have zb := hBl.lt
        refine nextH (i := 10) (by kernel_rfl) rfl (fun K hK => ?_)
        go_simp
        obtain ⟨WE, hWE⟩ : ∃ WE, ((((Wy).setCell ⟨bb, 0, none⟩ (.int .i64 0)).setCell ⟨bb, 1, none⟩ (.int .i64 0)).setCell ⟨bb, 2, none⟩ (.int .i64 0)) = WE := ⟨_, rfl⟩
        rw [hWE]
        have hE : Blk WE (bb) 87 [.int .i64 0, .int .i64 0, .int .i64 0] := by rw [← hWE]; exact (((hBl.set_ 0 _).set_ 1 _).set_ 2 _)
        have hbE : Below w4.heap.size w4 WE := by rw [← hWE]; exact (((hSd.2.setCell hvr _).setCell hvr _).setCell hvr _)
        clear hWE x0 f0 x1 f1 x2 f2
        refine hK _ _ (kp hbE) ?_
        clear hK K
        refine nextH (i := 11) (by kernel_rfl) rfl (fun K hK => ?_)
        go_simp
        refine hK _ _ (kp hbE) ?_
        clear hK K
        refine wpAnyH_done (by kernel_rfl) ?_ _
        go_wp2
        go_meet
        exact ⟨_, rfl, rfl, hE, hbE, hvr⟩
      ·
        go_simp
        have hBl := Blk.new wa 87 [.int .i64 0, .int .i64 0, .int .i64 0]
        have hvr : w4.heap.size ≤ (wa).heap.size := hSd.2.size
        have hS' := kp (bel_alloc hSd.2 hSd.2.size (.cells #[.int .i64 0, .int .i64 0, .int .i64 0] 87))
        refine hK _ _ hS' ?_
        clear hK K hSd
        have hSd := hS'
        clear hS'
        obtain ⟨bb, hbb⟩ : ∃ bb, wa.heap.size = bb := ⟨_, rfl⟩
        obtain ⟨Wy, hWy⟩ : ∃ Wy, wa.alloc (.cells #[.int .i64 0, .int .i64 0, .int .i64 0] 87) = Wy := ⟨_, rfl⟩
        replace ra1 := ra1.bel (alloc_bel wa (.cells #[.int .i64 0, .int .i64 0, .int .i64 0] 87))
        rw [hWy] at hSd hBl ra1 ⊢
        rw [hbb] at hBl hvr
        try simp only [hbb]
        clear hWy hbb
        refine nextH (i := 5) (by kernel_rfl) rfl (fun K hK => ?_)
        go_simp
        refine (HSK.out _ _ _ ra1 rc1).mono ?_
        rintro e_ wx ⟨rfl, hby⟩
        have hS' := kp (bel_tr hSd.2 hSd.2.size hby)
        try dsimp only
        refine hK _ _ hS' ?_
        clear hK K hSd
        have hSd := hS'
        clear hS'
        replace hBl := hBl.bel hby
        refine wpAnyH_take (i := 6) (v := ?_) rfl (by kernel_rfl) (by kernel_rfl) (by kernel_rfl) (fun _ _ _ h => h) (Or.inl ⟨by kernel_rfl, ?_⟩) (by assumption) ?_
        rotate_left 1
        · (intro w hSw; obtain ⟨hk1, hk2⟩ := hSw; go_simp <;> with_reducible rfl)
        simp only [Act.put, List.getElem_toArray, List.getElem_cons_zero, List.getElem_cons_succ, List.setIfInBounds_toArray, List.set_cons_zero, List.set_cons_succ]
        refine wpAnyH_take (i := 7) (v := ?_) rfl (by kernel_rfl) (by kernel_rfl) (by kernel_rfl) (fun _ _ _ h => h) (Or.inl ⟨by kernel_rfl, ?_⟩) (by assumption) ?_
        rotate_left 1
        · (intro w hSw; obtain ⟨hk1, hk2⟩ := hSw; go_simp <;> with_reducible rfl)
        simp only [Act.put, List.getElem_toArray, List.getElem_cons_zero, List.getElem_cons_succ, List.setIfInBounds_toArray, List.set_cons_zero, List.set_cons_succ]
        refine wpAnyH_take (i := 8) (v := ?_) rfl (by kernel_rfl) (by kernel_rfl) (by kernel_rfl) (fun _ _ _ h => h) (Or.inl ⟨by kernel_rfl, ?_⟩) (by assumption) ?_
        rotate_left 1
        · (intro w hSw; obtain ⟨hk1, hk2⟩ := hSw; go_simp <;> with_reducible rfl)
        simp only [Act.put, List.getElem_toArray, List.getElem_cons_zero, List.getElem_cons_succ, List.setIfInBounds_toArray, List.set_cons_zero, List.set_cons_succ]
        obtain ⟨x0, x1, x2⟩ : (wx).cell? ⟨bb, 0, none⟩ = some (.int .i64 0) ∧ (wx).cell? ⟨bb, 1, none⟩ = some (.int .i64 0) ∧ (wx).cell? ⟨bb, 2, none⟩ = some (.int .i64 0) := ⟨hBl.cell 0, hBl.cell 1, hBl.cell 2⟩
        obtain ⟨f0, f1, f2⟩ : (wx).frozen? ⟨bb, 0, none⟩ = false ∧ (wx).frozen? ⟨bb, 1, none⟩ = false ∧ (wx).frozen? ⟨bb, 2, none⟩ = false := ⟨hBl.frozen 0, hBl.frozen 1, hBl.frozen 2⟩
        have zb := hBl.lt
        refine nextH (i := 10) (by kernel_rfl) rfl (fun K hK => ?_)
        go_simp
        obtain ⟨WE, hWE⟩ : ∃ WE, ((((wx).setCell ⟨bb, 0, none⟩ (.int .i64 0)).setCell ⟨bb, 1, none⟩ (.int .i64 0)).setCell ⟨bb, 2, none⟩ (.int .i64 0)) = WE := ⟨_, rfl⟩
        rw [hWE]
        have hE : Blk WE (bb) 87 [.int .i64 0, .int .i64 0, .int .i64 0] := by rw [← hWE]; exact (((hBl.set_ 0 _).set_ 1 _).set_ 2 _)
        have hbE : Below w4.heap.size w4 WE := by rw [← hWE]; exact (((hSd.2.setCell hvr _).setCell hvr _).setCell hvr _)
        clear hWE x0 f0 x1 f1 x2 f2
        refine hK _ _ (kp hbE) ?_
        clear hK K
        refine nextH (i := 11) (by kernel_rfl) rfl (fun K hK => ?_)
        go_simp
        refine hK _ _ (kp hbE) ?_
        clear hK K
        refine wpAnyH_done (by kernel_rfl) ?_ _
        go_wp2
        go_meet
        exact ⟨_, rfl, rfl, hE, hbE, hvr⟩
    ·
      go_simp
      have hB6 : Below w4.heap.size w4 (w4.alloc (.cells #[.int .i64 0, .int .i64 0, .int .i64 0] 87)).drew := (alloc_bel w4 _).drew
      have hBl0 : Blk (w4.alloc (.cells #[.int .i64 0, .int .i64 0, .int .i64 0] 87)).drew w4.heap.size 87 [.int .i64 0, .int .i64 0, .int .i64 0] := Blk.new w4 _ [.int .i64 0, .int .i64 0, .int .i64 0]
      refine hK _ _ (kp hB6) ?_
      clear hK K hSd
      have hSd := kp hB6
      have hvr : w4.heap.size ≤ w4.heap.size := Nat.le_refl _
      refine nextH (i := 1) (by kernel_rfl) rfl (fun K hK => ?_)
      go_simp
      refine (HCP.out _ (hr4.bel hSd.2)).mono ?_
      rintro e_ wa ⟨⟨A1, c1, rfl, ra1, rc1⟩, hbx⟩
      have hS' := kp (bel_tr hSd.2 hSd.2.size hbx)
      try dsimp only
      refine hK _ _ hS' ?_
      clear hK K hSd
      have hSd := hS'
      clear hS'
      have hBl1 := hBl0.bel hbx
      clear hBl0 hB6
      refine nextH (i := 5) (by kernel_rfl) rfl (fun K hK => ?_)
      go_simp
      refine (HSK.out _ _ _ ra1 rc1).mono ?_
      rintro e_ wx ⟨rfl, hby⟩
      have hS' := kp (bel_tr hSd.2 hSd.2.size hby)
      try dsimp only
      refine hK _ _ hS' ?_
      clear hK K hSd
      have hSd := hS'
      clear hS'
      have hBl := hBl1.bel hby
      clear hBl1
      refine wpAnyH_take (i := 6) (v := ?_) rfl (by kernel_rfl) (by kernel_rfl) (by kernel_rfl) (fun _ _ _ h => h) (Or.inl ⟨by kernel_rfl, ?_⟩) (by assumption) ?_
      rotate_left 1
      · (intro w hSw; obtain ⟨hk1, hk2⟩ := hSw; go_simp <;> with_reducible rfl)
      simp only [Act.put, List.getElem_toArray, List.getElem_cons_zero, List.getElem_cons_succ, List.setIfInBounds_toArray, List.set_cons_zero, List.set_cons_succ]
      refine wpAnyH_take (i := 7) (v := ?_) rfl (by kernel_rfl) (by kernel_rfl) (by kernel_rfl) (fun _ _ _ h => h) (Or.inl ⟨by kernel_rfl, ?_⟩) (by assumption) ?_
      rotate_left 1
      · (intro w hSw; obtain ⟨hk1, hk2⟩ := hSw; go_simp <;> with_reducible rfl)
      simp only [Act.put, List.getElem_toArray, List.getElem_cons_zero, List.getElem_cons_succ, List.setIfInBounds_toArray, List.set_cons_zero, List.set_cons_succ]
      refine wpAnyH_take (i := 8) (v := ?_) rfl (by kernel_rfl) (by kernel_rfl) (by kernel_rfl) (fun _ _ _ h => h) (Or.inl ⟨by kernel_rfl, ?_⟩) (by assumption) ?_
      rotate_left 1
      · (intro w hSw; obtain ⟨hk1, hk2⟩ := hSw; go_simp <;> with_reducible rfl)
      simp only [Act.put, List.getElem_toArray, List.getElem_cons_zero, List.getElem_cons_succ, List.setIfInBounds_toArray, List.set_cons_zero, List.set_cons_succ]
      obtain ⟨x0, x1, x2⟩ : (wx).cell? ⟨w4.heap.size, 0, none⟩ = some (.int .i64 0) ∧ (wx).cell? ⟨w4.heap.size, 1, none⟩ = some (.int .i64 0) ∧ (wx).cell? ⟨w4.heap.size, 2, none⟩ = some (.int .i64 0) := ⟨hBl.cell 0, hBl.cell 1, hBl.cell 2⟩
      obtain ⟨f0, f1, f2⟩ : (wx).frozen? ⟨w4.heap.size, 0, none⟩ = false ∧ (wx).frozen? ⟨w4.heap.size, 1, none⟩ = false ∧ (wx).frozen? ⟨w4.heap.size, 2, none⟩ = false := ⟨hBl.frozen 0, hBl.frozen 1, hBl.frozen 2⟩
      have zb := hBl.lt
      refine nextH (i := 10) (by kernel_rfl) rfl (fun K hK => ?_)
      go_simp
      obtain ⟨WE, hWE⟩ : ∃ WE, ((((wx).setCell ⟨w4.heap.size, 0, none⟩ (.int .i64 0)).setCell ⟨w4.heap.size, 1, none⟩ (.int .i64 0)).setCell ⟨w4.heap.size, 2, none⟩ (.int .i64 0)) = WE := ⟨_, rfl⟩
      rw [hWE]
      have hE : Blk WE (w4.heap.size) 87 [.int .i64 0, .int .i64 0, .int .i64 0] := by rw [← hWE]; exact (((hBl.set_ 0 _).set_ 1 _).set_ 2 _)
      have hbE : Below w4.heap.size w4 WE := by rw [← hWE]; exact (((hSd.2.setCell hvr _).setCell hvr _).setCell hvr _)
      clear hWE x0 f0 x1 f1 x2 f2
      refine hK _ _ (kp hbE) ?_
      clear hK K
      refine nextH (i := 11) (by kernel_rfl) rfl (fun K hK => ?_)
      go_simp
      refine hK _ _ (kp hbE) ?_
      clear hK K
      refine wpAnyH_done (by kernel_rfl) ?_ _
      go_wp2
      go_meet
      exact ⟨_, rfl, rfl, hE, hbE, hvr⟩
  obtain ⟨b2, rfl, rfl, kb2, hbb2, hgb2⟩ := hcut
  obtain ⟨w5, rfl⟩ : ∃ w5, w5 = wc := ⟨_, rfl⟩
  have hb4_5 : Below w4.heap.size w4 w5 := hbb2
  have kS5 := kS4.bel hb4_5
  have kL5 := kL4.bel hb4_5
  have kF5 := kF4.bel hb4_5
  have hr5 := hr4.bel hb4_5
  have hB5 : Below q w w5 := hB4.trans (hb4_5.mono z4)
  have z5 : q ≤ w5.heap.size := by have := hb4_5.size; omega
  have ykS_5 := kS5.lt
  have ykL_5 := kL5.lt
  have ykF_5 := kF5.lt
  clear s0 s1 t0 t1 p0 p1 hB4 z4 hb4_5 kS4 kL4 kF4 hr4 ykS_4 ykL_4 ykF_4
  have s0 := kS5.cell 0; have s1 := kS5.cell 1; simp only [List.getElem?_cons_zero, List.getElem?_cons_succ] at s0 s1
  have t0 := kL5.cell 0; have t1 := kL5.cell 1; simp only [List.getElem?_cons_zero, List.getElem?_cons_succ] at t0 t1
  have p0 := kF5.cell 0; have p1 := kF5.cell 1; simp only [List.getElem?_cons_zero, List.getElem?_cons_succ] at p0 p1
  clear hbb2 hgb2
  have kK5 := kb2
  have ykK_5 := kK5.lt
  have o0 := kK5.cell 0; have o1 := kK5.cell 1; have o2 := kK5.cell 2; simp only [List.getElem?_cons_zero, List.getElem?_cons_succ] at o0 o1 o2
  go_upto_region 14 with (first
    | (go_at_call 51; refine (HGE.out _).mono ?_; rintro e_ w_ ⟨rfl, rfl⟩)
    | (go_at_call 48; refine (HWI.out _).mono ?_; rintro e_ w_ ⟨rfl, rfl⟩))
  have hSd : (∀ b o, b < w5.heap.size → w5.drew.cell? ⟨b, o, none⟩ = w5.cell? ⟨b, o, none⟩) ∧ Below w5.heap.size w5 w5.drew := kp (Below.refl _ _).drew
  refine wp_region_held (S := fun w' => (∀ b o, b < w5.heap.size → w'.cell? ⟨b, o, none⟩ = w5.cell? ⟨b, o, none⟩) ∧ Below w5.heap.size w5 w') (by kernel_rfl) ?_
  change wpAnyH _ _ _ _ _ _ _ _ w5.drew
  refine wpAnyH_take (i := 0) (v := ?_) rfl (by kernel_rfl) (by kernel_rfl) (by kernel_rfl) (fun _ _ _ h => h) (Or.inl ⟨by kernel_rfl, ?_⟩) (by assumption) ?_
  rotate_left 1
  · (intro w hSw; obtain ⟨hk1, hk2⟩ := hSw; go_simp <;> with_reducible rfl)
  simp only [Act.put, List.getElem_toArray, List.getElem_cons_zero, List.setIfInBounds_toArray, List.set_cons_zero, List.set_cons_succ]
  refine wpAnyH_take (i := 1) (v := ?_) rfl (by kernel_rfl) (by kernel_rfl) (by kernel_rfl) (fun _ _ _ h => h) (Or.inl ⟨by kernel_rfl, ?_⟩) (by assumption) ?_
  rotate_left 1
  · (intro w hSw; obtain ⟨hk1, hk2⟩ := hSw; go_simp <;> with_reducible rfl)
  simp only [Act.put, List.getElem_toArray, List.getElem_cons_zero, List.getElem_cons_succ, List.setIfInBounds_toArray, List.set_cons_zero, List.set_cons_succ]
  refine wpAnyH_take (i := 2) (v := ?_) rfl (by kernel_rfl) (by kernel_rfl) (by kernel_rfl) (fun _ _ _ h => h) (Or.inl ⟨by kernel_rfl, ?_⟩) (by assumption) ?_
  rotate_left 1
  · (intro w hSw; obtain ⟨hk1, hk2⟩ := hSw; go_simp <;> with_reducible rfl)
  simp only [Act.put, List.getElem_toArray, List.getElem_cons_zero, List.getElem_cons_succ, List.setIfInBounds_toArray, List.set_cons_zero, List.set_cons_succ]
  refine wpAnyH_take (i := 3) (v := ?_) rfl (by kernel_rfl) (by kernel_rfl) (by kernel_rfl) (fun _ _ _ h => h) (Or.inl ⟨by kernel_rfl, ?_⟩) (by assumption) ?_
  rotate_left 1
  · (intro w hSw; obtain ⟨hk1, hk2⟩ := hSw; go_simp <;> with_reducible rfl)
  simp only [Act.put, List.getElem_toArray, List.getElem_cons_zero, List.getElem_cons_succ, List.setIfInBounds_toArray, List.set_cons_zero, List.set_cons_succ]
  refine wpAnyH_take (i := 4) (v := ?_) rfl (by kernel_rfl) (by kernel_rfl) (by kernel_rfl) (fun _ _ _ h => h) (Or.inl ⟨by kernel_rfl, ?_⟩) (by assumption) ?_
  rotate_left 1
  · (intro w hSw; obtain ⟨hk1, hk2⟩ := hSw; go_simp <;> with_reducible rfl)
  simp only [Act.put, List.getElem_toArray, List.getElem_cons_zero, List.getElem_cons_succ, List.setIfInBounds_toArray, List.set_cons_zero, List.set_cons_succ]
  refine wpAnyH_take (i := 5) (v := ?_) rfl (by kernel_rfl) (by kernel_rfl) (by kernel_rfl) (fun _ _ _ h => h) (Or.inl ⟨by kernel_rfl, ?_⟩) (by assumption) ?_
  rotate_left 1
  · (intro w hSw; obtain ⟨hk1, hk2⟩ := hSw; go_simp <;> with_reducible rfl)
  simp only [Act.put, List.getElem_toArray, List.getElem_cons_zero, List.getElem_cons_succ, List.setIfInBounds_toArray, List.set_cons_zero, List.set_cons_succ]
  refine wpAnyH_take (i := 6) (v := ?_) rfl (by kernel_rfl) (by kernel_rfl) (by kernel_rfl) (fun _ _ _ h => h) (Or.inl ⟨by kernel_rfl, ?_⟩) (by assumption) ?_
  rotate_left 1
  · (intro w hSw; obtain ⟨hk1, hk2⟩ := hSw; go_simp <;> with_reducible rfl)
  simp only [Act.put, List.getElem_toArray, List.getElem_cons_zero, List.getElem_cons_succ, List.setIfInBounds_toArray, List.set_cons_zero, List.set_cons_succ]
  refine wpAnyH_take (i := 7) (v := ?_) rfl (by kernel_rfl) (by kernel_rfl) (by kernel_rfl) (fun _ _ _ h => h) (Or.inl ⟨by kernel_rfl, ?_⟩) (by assumption) ?_
  rotate_left 1
  · (intro w hSw; obtain ⟨hk1, hk2⟩ := hSw; go_simp <;> with_reducible rfl)
  simp only [Act.put, List.getElem_toArray, List.getElem_cons_zero, List.getElem_cons_succ, List.setIfInBounds_toArray, List.set_cons_zero, List.set_cons_succ]
  refine nextH (i := 8) (by kernel_rfl) rfl (fun K hK => ?_)
  go_simp
  refine (HLA.out _).mono ?_
  rintro e_ w6 ⟨rfl, hb6⟩
  have hS' := kp (bel_tr hSd.2 hSd.2.size hb6)
  try dsimp only
  refine hK _ _ hS' ?_
  clear hK K hSd
  have hSd := hS'
  clear hS'
  refine wpAnyH_take (i := 9) (v := ?_) rfl (by kernel_rfl) (by kernel_rfl) (by kernel_rfl) (fun _ _ _ h => h) (Or.inl ⟨by kernel_rfl, ?_⟩) (by assumption) ?_
  rotate_left 1
  · (intro w hSw; obtain ⟨hk1, hk2⟩ := hSw; go_simp <;> with_reducible rfl)
  simp only [Act.put, List.getElem_toArray, List.getElem_cons_zero, List.getElem_cons_succ, List.setIfInBounds_toArray, List.set_cons_zero, List.set_cons_succ]
  refine wpAnyH_take (i := 10) (v := ?_) rfl (by kernel_rfl) (by kernel_rfl) (by kernel_rfl) (fun _ _ _ h => h) (Or.inl ⟨by kernel_rfl, ?_⟩) (by assumption) ?_
  rotate_left 1
  · (intro w hSw; obtain ⟨hk1, hk2⟩ := hSw; go_simp <;> with_reducible rfl)
  simp only [Act.put, List.getElem_toArray, List.getElem_cons_zero, List.getElem_cons_succ, List.setIfInBounds_toArray, List.set_cons_zero, List.set_cons_succ]
  refine wpAnyH_done (by kernel_rfl) ?_ _
  have hb5_6 : Below w5.heap.size w5 w6 := hSd.2
  have kS6 := kS5.bel hb5_6
  have kL6 := kL5.bel hb5_6
  have kF6 := kF5.bel hb5_6
  have kK6 := kK5.bel hb5_6
  have hr6 := hr5.bel hb5_6
  have hB6 : Below q w w6 := hB5.trans (hb5_6.mono z5)
  have z6 : q ≤ w6.heap.size := by have := hb5_6.size; omega
  have ykS_6 := kS6.lt
  have ykL_6 := kL6.lt
  have ykF_6 := kF6.lt
  have ykK_6 := kK6.lt
  clear s0 s1 t0 t1 p0 p1 o0 o1 o2 hB5 z5 hb5_6 kS5 kL5 kF5 kK5 hr5 ykS_5 ykL_5 ykF_5 ykK_5
  have s0 := kS6.cell 0; have s1 := kS6.cell 1; simp only [List.getElem?_cons_zero, List.getElem?_cons_succ] at s0 s1
  have t0 := kL6.cell 0; have t1 := kL6.cell 1; simp only [List.getElem?_cons_zero, List.getElem?_cons_succ] at t0 t1
  have p0 := kF6.cell 0; have p1 := kF6.cell 1; simp only [List.getElem?_cons_zero, List.getElem?_cons_succ] at p0 p1
  have o0 := kK6.cell 0; have o1 := kK6.cell 1; have o2 := kK6.cell 2; simp only [List.getElem?_cons_zero, List.getElem?_cons_succ] at o0 o1 o2
  clear hSd hb6
  go_upto_region 16 with fail
  go_upto_region 17 with (go_at_call 53; refine (HSE.out _ hr6).mono ?_; rintro e_ w7 ⟨rfl, hb7⟩)
  have hb6_7 : Below w6.heap.size w6 w7 := hb7
  have kS7 := kS6.bel hb6_7
  have kL7 := kL6.bel hb6_7
  have kF7 := kF6.bel hb6_7
  have kK7 := kK6.bel hb6_7
  have hr7 := hr6.bel hb6_7
  have hB7 : Below q w w7 := hB6.trans (hb6_7.mono z6)
  have z7 : q ≤ w7.heap.size := by have := hb6_7.size; omega
  have ykS_7 := kS7.lt
  have ykL_7 := kL7.lt
  have ykF_7 := kF7.lt
  have ykK_7 := kK7.lt
  clear s0 s1 t0 t1 p0 p1 o0 o1 o2 hB6 z6 hb6_7 kS6 kL6 kF6 kK6 hr6 ykS_6 ykL_6 ykF_6 ykK_6
  have s0 := kS7.cell 0; have s1 := kS7.cell 1; simp only [List.getElem?_cons_zero, List.getElem?_cons_succ] at s0 s1
  have t0 := kL7.cell 0; have t1 := kL7.cell 1; simp only [List.getElem?_cons_zero, List.getElem?_cons_succ] at t0 t1
  have p0 := kF7.cell 0; have p1 := kF7.cell 1; simp only [List.getElem?_cons_zero, List.getElem?_cons_succ] at p0 p1
  have o0 := kK7.cell 0; have o1 := kK7.cell 1; have o2 := kK7.cell 2; simp only [List.getElem?_cons_zero, List.getElem?_cons_succ] at o0 o1 o2
  clear hb7
  go_wp2_with (go_at_call 24; refine (HFE.out _).mono ?_; rintro e_ w_ ⟨rfl, rfl⟩)
  go_ret
  exact ⟨rfl, by first | exact hB7 | (rw [hq]; exact hB7)⟩
set_option maxHeartbeats 16000000 in
theorem skipsLaw_od1 (H f x0 x1 : Int) (A : Option Addr) (c : Nat) (l : List G) (w : World) (hr : Rd w A (gs l)) (hl : l.length ≤ 14) (hg : gridE x0 = 0) (hx : outB x1 0 (x0 - 1) = false) (he : (skyE H l).2 = 0) (hf : freqE f = 0) (hfd : (skAll H f x0.toNat l (List.range x0.toNat)).1 = true) :
    Calls Try.prog 7 #[.agg #[.int .i64 H, .slice A l.length c], .int .i64 f, .agg #[.int .i64 x0, .int .i64 x1]] w fun r w' => r = .returned (.bool true) ∧ Below w.heap.size w w' := by
  have HCP := hide (fun W (h : Rd W A (gs l)) => copySky_c H A c l W h (by omega))
  have HFW := hide (fun W => few_c H A c l W)
  rw [decide_eq_true (show (l.length : Int) ≤ 14 by omega)] at HFW
  have HGE := hide (fun W => refGridErr_c x0 W)
  have HSE := hide (fun W (h : Rd W A (gs l)) => refSkyErr_c H A c l W h (by omega))
  have HFE := hide (fun W => frequencyErr_c f W)
  have HLO := hide (fun W => launchOf_c x0 x1 W)
  have HSK := hide (fun A' c' W (h : Rd W A' (gs l)) h' => skipOf_c H f x0 A' c' l W h (by omega) h')
  have hg1 := gridE_zero hg
  have HWI := hide (fun W => within_c x1 0 (x0 - 1) W)
  rw [hx] at HWI
  have hle : lauE x0 x1 = 0 := by unfold lauE; rw [hg, wrap64_id (by omega) (by omega), hx]; rfl
  rw [show lauQ x0 x1 = (redQ x1 x0, 0) by unfold lauQ; rw [if_neg (by rw [hle]; simp)]] at HLO
  have hx1 := outB_false.1 hx
  have HLA := hide (fun W => refLaunch_c x0 x1 W (by omega) (by omega) (by omega) (by omega))
  generalize redQ x1 x0 = z at HLO HLA
  obtain ⟨za, zb⟩ := z
  have hsk : skpE H f x0 l = 0 := by unfold skpE; rw [he, hf, hg]; rfl
  obtain ⟨H0, H1, l0, l1, hok⟩ := skyE_zero he
  have hf1 := freqE_zero hf
  have HRS := hide (fun W (h : Rd W A (gs l)) => refSkip_c H f x0.toNat A c l W h H0 H1 l0 l1 hok hf1.1 hf1.2 (by omega) (by omega))
  rw [show ((x0.toNat : Nat) : Int) = x0 by omega] at HRS
  rw [show skpQ H f x0 l = ((skAll H f x0.toNat l (List.range x0.toNat)).2, errIf (!(skAll H f x0.toNat l (List.range x0.toNat)).1) 12) by unfold skpQ; rw [if_neg (by rw [hsk]; simp)]] at HSK
  rw [he] at HSE
  rw [hf] at HFE
  rw [hfd] at HSK HRS
  generalize (skAll H f x0.toNat l (List.range x0.toNat)).2 = st at HSK HRS
  obtain ⟨k1, k2, k3⟩ := st
  rw [show errIf (!true) 12 = 0 from rfl] at HSK
  clear hsk hok H0 H1 l0 l1 hf1
  dsimp only at HSK HLO
  dsimp only at HRS
  dsimp only at HLA
  rw [hg] at HGE
  clear hle
  try clear he
  try clear hf
  try clear hfd
  try clear hg
  try clear hx
  obtain ⟨q, hq⟩ : ∃ q, w.heap.size = q := ⟨_, rfl⟩
  obtain ⟨q1, hq1⟩ : ∃ q1, q + 1 = q1 := ⟨_, rfl⟩
  obtain ⟨Wa, hWa⟩ : ∃ Wa, w.alloc (.cells #[.int .i64 H, .slice A l.length c] 24) = Wa := ⟨_, rfl⟩
  have ba : Below w.heap.size w Wa := by rw [← hWa]; exact alloc_bel _ _
  have sa : Wa.heap.size = q1 := by rw [← hWa, ← hq1, ← hq]; simp
  have ka : Blk Wa q 24 [.int .i64 H, .slice A l.length c] := by rw [← hWa, ← hq]; exact Blk.new w _ [_, _]
  obtain ⟨w0, hWb⟩ : ∃ w0, Wa.alloc (.cells #[.int .i64 x0, .int .i64 x1] 83) = w0 := ⟨_, rfl⟩
  have bb : Below Wa.heap.size Wa w0 := by rw [← hWb]; exact alloc_bel _ _
  have kL0 : Blk w0 q1 83 [.int .i64 x0, .int .i64 x1] := by rw [← hWb, ← sa]; exact Blk.new Wa _ [_, _]
  have hAB : (w.alloc (.cells #[.int .i64 H, .slice A l.length c] 24)).alloc (.cells #[.int .i64 x0, .int .i64 x1] 83) = w0 := by rw [hWa, hWb]
  have HW := hide hAB
  have kS0 := ka.bel bb
  have hr0 := (hr.bel ba).bel bb
  have hB0 : Below q w w0 := by
    rw [hq] at ba
    exact ba.trans (bb.mono (by omega))
  have z0 : q ≤ w0.heap.size := by have := kS0.lt; omega
  clear hAB hWa hWb ba bb ka sa
  have ykS_0 := kS0.lt
  have ykL_0 := kL0.lt
  have s0 := kS0.cell 0; have s1 := kS0.cell 1; simp only [List.getElem?_cons_zero, List.getElem?_cons_succ] at s0 s1
  have t0 := kL0.cell 0; have t1 := kL0.cell 1; simp only [List.getElem?_cons_zero, List.getElem?_cons_succ] at t0 t1
  go_enter Try.func7, Try.ntmps7
  go_upto_region 1 with fail
  try simp only [World.size_alloc, hq, hq1]
  rw [HW.out]
  go_upto_region 3 with (go_at_call 15; refine (awake_c _).mono ?_; rintro e_ w1 ⟨rfl, hb1⟩)
  have hb0_1 : Below w0.heap.size w0 w1 := hb1
  have kS1 := kS0.bel hb0_1
  have kL1 := kL0.bel hb0_1
  have hr1 := hr0.bel hb0_1
  have hB1 : Below q w w1 := hB0.trans (hb0_1.mono z0)
  have z1 : q ≤ w1.heap.size := by have := hb0_1.size; omega
  have ykS_1 := kS1.lt
  have ykL_1 := kL1.lt
  clear s0 s1 t0 t1 hB0 z0 hb0_1 kS0 kL0 hr0 ykS_0 ykL_0
  have s0 := kS1.cell 0; have s1 := kS1.cell 1; simp only [List.getElem?_cons_zero, List.getElem?_cons_succ] at s0 s1
  have t0 := kL1.cell 0; have t1 := kL1.cell 1; simp only [List.getElem?_cons_zero, List.getElem?_cons_succ] at t0 t1
  go_upto_region 5 with (go_at_call 16; refine (HFW.out _).mono ?_; rintro e_ w2 ⟨rfl, hb2⟩)
  have hb1_2 : Below w1.heap.size w1 w2 := hb2
  have kS2 := kS1.bel hb1_2
  have kL2 := kL1.bel hb1_2
  have hr2 := hr1.bel hb1_2
  have hB2 : Below q w w2 := hB1.trans (hb1_2.mono z1)
  have z2 : q ≤ w2.heap.size := by have := hb1_2.size; omega
  have ykS_2 := kS2.lt
  have ykL_2 := kL2.lt
  clear s0 s1 t0 t1 hB1 z1 hb1_2 kS1 kL1 hr1 ykS_1 ykL_1
  have s0 := kS2.cell 0; have s1 := kS2.cell 1; simp only [List.getElem?_cons_zero, List.getElem?_cons_succ] at s0 s1
  have t0 := kL2.cell 0; have t1 := kL2.cell 1; simp only [List.getElem?_cons_zero, List.getElem?_cons_succ] at t0 t1
  go_upto_region 6 with (go_at_call 49; refine (HLO.out _).mono ?_; rintro e_ w3 ⟨rfl, hb3⟩)
  obtain ⟨b1, hb1e⟩ : ∃ b1, w3.heap.size = b1 := ⟨_, rfl⟩
  obtain ⟨w4, hw4⟩ : ∃ w4, w3.alloc (.cells #[.int .i64 za, .int .i64 zb] 26) = w4 := ⟨_, rfl⟩
  have b34 : Below w3.heap.size w3 w4 := by rw [← hw4]; exact alloc_bel _ _
  have kF4 : Blk w4 b1 26 [.int .i64 za, .int .i64 zb] := by rw [← hw4, ← hb1e]; exact Blk.new w3 _ [_, _]
  rw [hw4]
  try simp only [hb1e]
  clear hw4 hb1e
  have hb24 := bel_tr hb3 hb3.size b34
  have hb2_4 : Below w2.heap.size w2 w4 := hb24
  have kS4 := kS2.bel hb2_4
  have kL4 := kL2.bel hb2_4
  have hr4 := hr2.bel hb2_4
  have hB4 : Below q w w4 := hB2.trans (hb2_4.mono z2)
  have z4 : q ≤ w4.heap.size := by have := hb2_4.size; omega
  have ykS_4 := kS4.lt
  have ykL_4 := kL4.lt
  clear s0 s1 t0 t1 hB2 z2 hb2_4 kS2 kL2 hr2 ykS_2 ykL_2
  have s0 := kS4.cell 0; have s1 := kS4.cell 1; simp only [List.getElem?_cons_zero, List.getElem?_cons_succ] at s0 s1
  have t0 := kL4.cell 0; have t1 := kL4.cell 1; simp only [List.getElem?_cons_zero, List.getElem?_cons_succ] at t0 t1
  clear hb24 hb3 b34
  have ykF_4 := kF4.lt
  have p0 := kF4.cell 0; have p1 := kF4.cell 1; simp only [List.getElem?_cons_zero, List.getElem?_cons_succ] at p0 p1
  go_cut [9, 10] from 28 to 36 (fun x y wx => ∃ b : Nat, x = .pointer (some ⟨b, 0, none⟩) ∧ y = .int .i64 0 ∧ Blk wx b 87 [.int .i64 k1, .int .i64 k2, .int .i64 k3] ∧ Below w4.heap.size w4 wx ∧ w4.heap.size ≤ b)
  case first =>
    have hSd : (∀ b o, b < w4.heap.size → w4.drew.cell? ⟨b, o, none⟩ = w4.cell? ⟨b, o, none⟩) ∧ Below w4.heap.size w4 w4.drew := kp (Below.refl _ _).drew
    refine wp_region_held (S := fun w' => (∀ b o, b < w4.heap.size → w'.cell? ⟨b, o, none⟩ = w4.cell? ⟨b, o, none⟩) ∧ Below w4.heap.size w4 w') (by kernel_rfl) ?_
    change wpAnyH _ _ _ _ _ _ _ _ w4.drew
    refine wpAnyH_take (i := 0) (v := ?_) rfl (by kernel_rfl) (by kernel_rfl) (by kernel_rfl) (fun _ _ _ h => h) (Or.inl ⟨by kernel_rfl, ?_⟩) (by assumption) ?_
    rotate_left 1
    · (intro w hSw; obtain ⟨hk1, hk2⟩ := hSw; go_simp <;> with_reducible rfl)
    simp only [Act.put, List.getElem_toArray, List.getElem_cons_zero, List.setIfInBounds_toArray, List.set_cons_zero, List.set_cons_succ]
    refine wpAnyH_take (i := 2) (v := ?_) rfl (by kernel_rfl) (by kernel_rfl) (by kernel_rfl) (fun _ _ _ h => h) (Or.inl ⟨by kernel_rfl, ?_⟩) (by assumption) ?_
    rotate_left 1
    · (intro w hSw; obtain ⟨hk1, hk2⟩ := hSw; go_simp <;> with_reducible rfl)
    simp only [Act.put, List.getElem_toArray, List.getElem_cons_zero, List.getElem_cons_succ, List.setIfInBounds_toArray, List.set_cons_zero, List.set_cons_succ]
    refine wpAnyH_take (i := 3) (v := ?_) rfl (by kernel_rfl) (by kernel_rfl) (by kernel_rfl) (fun _ _ _ h => h) (Or.inl ⟨by kernel_rfl, ?_⟩) (by assumption) ?_
    rotate_left 1
    · (intro w hSw; obtain ⟨hk1, hk2⟩ := hSw; go_simp <;> with_reducible rfl)
    simp only [Act.put, List.getElem_toArray, List.getElem_cons_zero, List.getElem_cons_succ, List.setIfInBounds_toArray, List.set_cons_zero, List.set_cons_succ]
    refine wpAnyH_take (i := 4) (v := ?_) rfl (by kernel_rfl) (by kernel_rfl) (by kernel_rfl) (fun _ _ _ h => h) (Or.inl ⟨by kernel_rfl, ?_⟩) (by assumption) ?_
    rotate_left 1
    · (intro w hSw; obtain ⟨hk1, hk2⟩ := hSw; go_simp <;> with_reducible rfl)
    simp only [Act.put, List.getElem_toArray, List.getElem_cons_zero, List.getElem_cons_succ, List.setIfInBounds_toArray, List.set_cons_zero, List.set_cons_succ]
    refine nextH2 (i := 1) (j := 9) (by kernel_rfl) rfl rfl (fun K hK => ?_) (fun K hK => ?_)
    ·
      go_simp
      refine (HCP.out _ (hr4.bel hSd.2)).mono ?_
      rintro e_ wa ⟨⟨A1, c1, rfl, ra1, rc1⟩, hbx⟩
      have hS' := kp (bel_tr hSd.2 hSd.2.size hbx)
      try dsimp only
      refine hK _ _ hS' ?_
      clear hK K hSd
      have hSd := hS'
      clear hS'
      refine nextH2 (i := 5) (j := 9) (by kernel_rfl) rfl rfl (fun K hK => ?_) (fun K hK => ?_)
      ·
        go_simp
        refine (HSK.out _ _ _ ra1 rc1).mono ?_
        rintro e_ wx ⟨rfl, hby⟩
        have hS' := kp (bel_tr hSd.2 hSd.2.size hby)
        try dsimp only
        refine hK _ _ hS' ?_
        clear hK K hSd
        have hSd := hS'
        clear hS'
        refine wpAnyH_take (i := 6) (v := ?_) rfl (by kernel_rfl) (by kernel_rfl) (by kernel_rfl) (fun _ _ _ h => h) (Or.inl ⟨by kernel_rfl, ?_⟩) (by assumption) ?_
        rotate_left 1
        · (intro w hSw; obtain ⟨hk1, hk2⟩ := hSw; go_simp <;> with_reducible rfl)
        simp only [Act.put, List.getElem_toArray, List.getElem_cons_zero, List.getElem_cons_succ, List.setIfInBounds_toArray, List.set_cons_zero, List.set_cons_succ]
        refine wpAnyH_take (i := 7) (v := ?_) rfl (by kernel_rfl) (by kernel_rfl) (by kernel_rfl) (fun _ _ _ h => h) (Or.inl ⟨by kernel_rfl, ?_⟩) (by assumption) ?_
        rotate_left 1
        · (intro w hSw; obtain ⟨hk1, hk2⟩ := hSw; go_simp <;> with_reducible rfl)
        simp only [Act.put, List.getElem_toArray, List.getElem_cons_zero, List.getElem_cons_succ, List.setIfInBounds_toArray, List.set_cons_zero, List.set_cons_succ]
        refine wpAnyH_take (i := 8) (v := ?_) rfl (by kernel_rfl) (by kernel_rfl) (by kernel_rfl) (fun _ _ _ h => h) (Or.inl ⟨by kernel_rfl, ?_⟩) (by assumption) ?_
        rotate_left 1
        · (intro w hSw; obtain ⟨hk1, hk2⟩ := hSw; go_simp <;> with_reducible rfl)
        simp only [Act.put, List.getElem_toArray, List.getElem_cons_zero, List.getElem_cons_succ, List.setIfInBounds_toArray, List.set_cons_zero, List.set_cons_succ]
        refine nextH (i := 9) (by kernel_rfl) rfl (fun K hK => ?_)
        go_simp
        have hBl := Blk.new wx 87 [.int .i64 0, .int .i64 0, .int .i64 0]
        have hvr : w4.heap.size ≤ (wx).heap.size := hSd.2.size
        have hS' := kp (bel_alloc hSd.2 hSd.2.size (.cells #[.int .i64 0, .int .i64 0, .int .i64 0] 87))
        refine hK _ _ hS' ?_
        clear hK K hSd
        have hSd := hS'
        clear hS'
        obtain ⟨bb, hbb⟩ : ∃ bb, wx.heap.size = bb := ⟨_, rfl⟩
        obtain ⟨Wy, hWy⟩ : ∃ Wy, wx.alloc (.cells #[.int .i64 0, .int .i64 0, .int .i64 0] 87) = Wy := ⟨_, rfl⟩
        rw [hWy] at hSd hBl ⊢
        rw [hbb] at hBl hvr
        try simp only [hbb]
        clear hWy hbb
        obtain ⟨x0, x1, x2⟩ : (Wy).cell? ⟨bb, 0, none⟩ = some (.int .i64 0) ∧ (Wy).cell? ⟨bb, 1, none⟩ = some (.int .i64 0) ∧ (Wy).cell? ⟨bb, 2, none⟩ = some (.int .i64 0) := ⟨hBl.cell 0, hBl.cell 1, hBl.cell 2⟩
        obtain ⟨f0, f1, f2⟩ : (Wy).frozen? ⟨bb, 0, none⟩ = false ∧ (Wy).frozen? ⟨bb, 1, none⟩ = false ∧ (Wy).frozen? ⟨bb, 2, none⟩ = false := ⟨hBl.frozen 0, hBl.frozen 1, hBl.frozen 2⟩
        have zb := hBl.lt
        refine nextH (i := 10) (by kernel_rfl) rfl (fun K hK => ?_)
        go_simp
        obtain ⟨WE, hWE⟩ : ∃ WE, ((((Wy).setCell ⟨bb, 0, none⟩ (.int .i64 k1)).setCell ⟨bb, 1, none⟩ (.int .i64 k2)).setCell ⟨bb, 2, none⟩ (.int .i64 k3)) = WE := ⟨_, rfl⟩
        rw [hWE]
        have hE : Blk WE (bb) 87 [.int .i64 k1, .int .i64 k2, .int .i64 k3] := by rw [← hWE]; exact (((hBl.set_ 0 _).set_ 1 _).set_ 2 _)
        have hbE : Below w4.heap.size w4 WE := by rw [← hWE]; exact (((hSd.2.setCell hvr _).setCell hvr _).setCell hvr _)
        clear hWE x0 f0 x1 f1 x2 f2
        refine hK _ _ (kp hbE) ?_
        clear hK K
        refine nextH (i := 11) (by kernel_rfl) rfl (fun K hK => ?_)
        go_simp
        refine hK _ _ (kp hbE) ?_
        clear hK K
        refine wpAnyH_done (by kernel_rfl) ?_ _
        go_wp2
        go_meet
        exact ⟨_, rfl, rfl, hE, hbE, hvr⟩
      ·
        go_simp
        have hBl := Blk.new wa 87 [.int .i64 0, .int .i64 0, .int .i64 0]
        have hvr : w4.heap.size ≤ (wa).heap.size := hSd.2.size
        have hS' := kp (bel_alloc hSd.2 hSd.2.size (.cells #[.int .i64 0, .int .i64 0, .int .i64 0] 87))
        refine hK _ _ hS' ?_
        clear hK K hSd
        have hSd := hS'
        clear hS'
        obtain ⟨bb, hbb⟩ : ∃ bb, wa.heap.size = bb := ⟨_, rfl⟩
        obtain ⟨Wy, hWy⟩ : ∃ Wy, wa.alloc (.cells #[.int .i64 0, .int .i64 0, .int .i64 0] 87) = Wy := ⟨_, rfl⟩
        replace ra1 := ra1.bel (alloc_bel wa (.cells #[.int .i64 0, .int .i64 0, .int .i64 0] 87))
        rw [hWy] at hSd hBl ra1 ⊢
        rw [hbb] at hBl hvr
        try simp only [hbb]
        clear hWy hbb
        refine nextH (i := 5) (by kernel_rfl) rfl (fun K hK => ?_)
        go_simp
        refine (HSK.out _ _ _ ra1 rc1).mono ?_
        rintro e_ wx ⟨rfl, hby⟩
        have hS' := kp (bel_tr hSd.2 hSd.2.size hby)
        try dsimp only
        refine hK _ _ hS' ?_
        clear hK K hSd
        have hSd := hS'
        clear hS'
        replace hBl := hBl.bel hby
        refine wpAnyH_take (i := 6) (v := ?_) rfl (by kernel_rfl) (by kernel_rfl) (by kernel_rfl) (fun _ _ _ h => h) (Or.inl ⟨by kernel_rfl, ?_⟩) (by assumption) ?_
        rotate_left 1
        · (intro w hSw; obtain ⟨hk1, hk2⟩ := hSw; go_simp <;> with_reducible rfl)
        simp only [Act.put, List.getElem_toArray, List.getElem_cons_zero, List.getElem_cons_succ, List.setIfInBounds_toArray, List.set_cons_zero, List.set_cons_succ]
        refine wpAnyH_take (i := 7) (v := ?_) rfl (by kernel_rfl) (by kernel_rfl) (by kernel_rfl) (fun _ _ _ h => h) (Or.inl ⟨by kernel_rfl, ?_⟩) (by assumption) ?_
        rotate_left 1
        · (intro w hSw; obtain ⟨hk1, hk2⟩ := hSw; go_simp <;> with_reducible rfl)
        simp only [Act.put, List.getElem_toArray, List.getElem_cons_zero, List.getElem_cons_succ, List.setIfInBounds_toArray, List.set_cons_zero, List.set_cons_succ]
        refine wpAnyH_take (i := 8) (v := ?_) rfl (by kernel_rfl) (by kernel_rfl) (by kernel_rfl) (fun _ _ _ h => h) (Or.inl ⟨by kernel_rfl, ?_⟩) (by assumption) ?_
        rotate_left 1
        · (intro w hSw; obtain ⟨hk1, hk2⟩ := hSw; go_simp <;> with_reducible rfl)
        simp only [Act.put, List.getElem_toArray, List.getElem_cons_zero, List.getElem_cons_succ, List.setIfInBounds_toArray, List.set_cons_zero, List.set_cons_succ]
        obtain ⟨x0, x1, x2⟩ : (wx).cell? ⟨bb, 0, none⟩ = some (.int .i64 0) ∧ (wx).cell? ⟨bb, 1, none⟩ = some (.int .i64 0) ∧ (wx).cell? ⟨bb, 2, none⟩ = some (.int .i64 0) := ⟨hBl.cell 0, hBl.cell 1, hBl.cell 2⟩
        obtain ⟨f0, f1, f2⟩ : (wx).frozen? ⟨bb, 0, none⟩ = false ∧ (wx).frozen? ⟨bb, 1, none⟩ = false ∧ (wx).frozen? ⟨bb, 2, none⟩ = false := ⟨hBl.frozen 0, hBl.frozen 1, hBl.frozen 2⟩
        have zb := hBl.lt
        refine nextH (i := 10) (by kernel_rfl) rfl (fun K hK => ?_)
        go_simp
        obtain ⟨WE, hWE⟩ : ∃ WE, ((((wx).setCell ⟨bb, 0, none⟩ (.int .i64 k1)).setCell ⟨bb, 1, none⟩ (.int .i64 k2)).setCell ⟨bb, 2, none⟩ (.int .i64 k3)) = WE := ⟨_, rfl⟩
        rw [hWE]
        have hE : Blk WE (bb) 87 [.int .i64 k1, .int .i64 k2, .int .i64 k3] := by rw [← hWE]; exact (((hBl.set_ 0 _).set_ 1 _).set_ 2 _)
        have hbE : Below w4.heap.size w4 WE := by rw [← hWE]; exact (((hSd.2.setCell hvr _).setCell hvr _).setCell hvr _)
        clear hWE x0 f0 x1 f1 x2 f2
        refine hK _ _ (kp hbE) ?_
        clear hK K
        refine nextH (i := 11) (by kernel_rfl) rfl (fun K hK => ?_)
        go_simp
        refine hK _ _ (kp hbE) ?_
        clear hK K
        refine wpAnyH_done (by kernel_rfl) ?_ _
        go_wp2
        go_meet
        exact ⟨_, rfl, rfl, hE, hbE, hvr⟩
    ·
      go_simp
      have hB6 : Below w4.heap.size w4 (w4.alloc (.cells #[.int .i64 0, .int .i64 0, .int .i64 0] 87)).drew := (alloc_bel w4 _).drew
      have hBl0 : Blk (w4.alloc (.cells #[.int .i64 0, .int .i64 0, .int .i64 0] 87)).drew w4.heap.size 87 [.int .i64 0, .int .i64 0, .int .i64 0] := Blk.new w4 _ [.int .i64 0, .int .i64 0, .int .i64 0]
      refine hK _ _ (kp hB6) ?_
      clear hK K hSd
      have hSd := kp hB6
      have hvr : w4.heap.size ≤ w4.heap.size := Nat.le_refl _
      refine nextH (i := 1) (by kernel_rfl) rfl (fun K hK => ?_)
      go_simp
      refine (HCP.out _ (hr4.bel hSd.2)).mono ?_
      rintro e_ wa ⟨⟨A1, c1, rfl, ra1, rc1⟩, hbx⟩
      have hS' := kp (bel_tr hSd.2 hSd.2.size hbx)
      try dsimp only
      refine hK _ _ hS' ?_
      clear hK K hSd
      have hSd := hS'
      clear hS'
      have hBl1 := hBl0.bel hbx
      clear hBl0 hB6
      refine nextH (i := 5) (by kernel_rfl) rfl (fun K hK => ?_)
      go_simp
      refine (HSK.out _ _ _ ra1 rc1).mono ?_
      rintro e_ wx ⟨rfl, hby⟩
      have hS' := kp (bel_tr hSd.2 hSd.2.size hby)
      try dsimp only
      refine hK _ _ hS' ?_
      clear hK K hSd
      have hSd := hS'
      clear hS'
      have hBl := hBl1.bel hby
      clear hBl1
      refine wpAnyH_take (i := 6) (v := ?_) rfl (by kernel_rfl) (by kernel_rfl) (by kernel_rfl) (fun _ _ _ h => h) (Or.inl ⟨by kernel_rfl, ?_⟩) (by assumption) ?_
      rotate_left 1
      · (intro w hSw; obtain ⟨hk1, hk2⟩ := hSw; go_simp <;> with_reducible rfl)
      simp only [Act.put, List.getElem_toArray, List.getElem_cons_zero, List.getElem_cons_succ, List.setIfInBounds_toArray, List.set_cons_zero, List.set_cons_succ]
      refine wpAnyH_take (i := 7) (v := ?_) rfl (by kernel_rfl) (by kernel_rfl) (by kernel_rfl) (fun _ _ _ h => h) (Or.inl ⟨by kernel_rfl, ?_⟩) (by assumption) ?_
      rotate_left 1
      · (intro w hSw; obtain ⟨hk1, hk2⟩ := hSw; go_simp <;> with_reducible rfl)
      simp only [Act.put, List.getElem_toArray, List.getElem_cons_zero, List.getElem_cons_succ, List.setIfInBounds_toArray, List.set_cons_zero, List.set_cons_succ]
      refine wpAnyH_take (i := 8) (v := ?_) rfl (by kernel_rfl) (by kernel_rfl) (by kernel_rfl) (fun _ _ _ h => h) (Or.inl ⟨by kernel_rfl, ?_⟩) (by assumption) ?_
      rotate_left 1
      · (intro w hSw; obtain ⟨hk1, hk2⟩ := hSw; go_simp <;> with_reducible rfl)
      simp only [Act.put, List.getElem_toArray, List.getElem_cons_zero, List.getElem_cons_succ, List.setIfInBounds_toArray, List.set_cons_zero, List.set_cons_succ]
      obtain ⟨x0, x1, x2⟩ : (wx).cell? ⟨w4.heap.size, 0, none⟩ = some (.int .i64 0) ∧ (wx).cell? ⟨w4.heap.size, 1, none⟩ = some (.int .i64 0) ∧ (wx).cell? ⟨w4.heap.size, 2, none⟩ = some (.int .i64 0) := ⟨hBl.cell 0, hBl.cell 1, hBl.cell 2⟩
      obtain ⟨f0, f1, f2⟩ : (wx).frozen? ⟨w4.heap.size, 0, none⟩ = false ∧ (wx).frozen? ⟨w4.heap.size, 1, none⟩ = false ∧ (wx).frozen? ⟨w4.heap.size, 2, none⟩ = false := ⟨hBl.frozen 0, hBl.frozen 1, hBl.frozen 2⟩
      have zb := hBl.lt
      refine nextH (i := 10) (by kernel_rfl) rfl (fun K hK => ?_)
      go_simp
      obtain ⟨WE, hWE⟩ : ∃ WE, ((((wx).setCell ⟨w4.heap.size, 0, none⟩ (.int .i64 k1)).setCell ⟨w4.heap.size, 1, none⟩ (.int .i64 k2)).setCell ⟨w4.heap.size, 2, none⟩ (.int .i64 k3)) = WE := ⟨_, rfl⟩
      rw [hWE]
      have hE : Blk WE (w4.heap.size) 87 [.int .i64 k1, .int .i64 k2, .int .i64 k3] := by rw [← hWE]; exact (((hBl.set_ 0 _).set_ 1 _).set_ 2 _)
      have hbE : Below w4.heap.size w4 WE := by rw [← hWE]; exact (((hSd.2.setCell hvr _).setCell hvr _).setCell hvr _)
      clear hWE x0 f0 x1 f1 x2 f2
      refine hK _ _ (kp hbE) ?_
      clear hK K
      refine nextH (i := 11) (by kernel_rfl) rfl (fun K hK => ?_)
      go_simp
      refine hK _ _ (kp hbE) ?_
      clear hK K
      refine wpAnyH_done (by kernel_rfl) ?_ _
      go_wp2
      go_meet
      exact ⟨_, rfl, rfl, hE, hbE, hvr⟩
  obtain ⟨b2, rfl, rfl, kb2, hbb2, hgb2⟩ := hcut
  obtain ⟨w5, rfl⟩ : ∃ w5, w5 = wc := ⟨_, rfl⟩
  have hb4_5 : Below w4.heap.size w4 w5 := hbb2
  have kS5 := kS4.bel hb4_5
  have kL5 := kL4.bel hb4_5
  have kF5 := kF4.bel hb4_5
  have hr5 := hr4.bel hb4_5
  have hB5 : Below q w w5 := hB4.trans (hb4_5.mono z4)
  have z5 : q ≤ w5.heap.size := by have := hb4_5.size; omega
  have ykS_5 := kS5.lt
  have ykL_5 := kL5.lt
  have ykF_5 := kF5.lt
  clear s0 s1 t0 t1 p0 p1 hB4 z4 hb4_5 kS4 kL4 kF4 hr4 ykS_4 ykL_4 ykF_4
  have s0 := kS5.cell 0; have s1 := kS5.cell 1; simp only [List.getElem?_cons_zero, List.getElem?_cons_succ] at s0 s1
  have t0 := kL5.cell 0; have t1 := kL5.cell 1; simp only [List.getElem?_cons_zero, List.getElem?_cons_succ] at t0 t1
  have p0 := kF5.cell 0; have p1 := kF5.cell 1; simp only [List.getElem?_cons_zero, List.getElem?_cons_succ] at p0 p1
  clear hbb2 hgb2
  have kK5 := kb2
  have ykK_5 := kK5.lt
  have o0 := kK5.cell 0; have o1 := kK5.cell 1; have o2 := kK5.cell 2; simp only [List.getElem?_cons_zero, List.getElem?_cons_succ] at o0 o1 o2
  go_upto_region 14 with (first
    | (go_at_call 51; refine (HGE.out _).mono ?_; rintro e_ w_ ⟨rfl, rfl⟩)
    | (go_at_call 48; refine (HWI.out _).mono ?_; rintro e_ w_ ⟨rfl, rfl⟩))
  have hSd : (∀ b o, b < w5.heap.size → w5.drew.cell? ⟨b, o, none⟩ = w5.cell? ⟨b, o, none⟩) ∧ Below w5.heap.size w5 w5.drew := kp (Below.refl _ _).drew
  refine wp_region_held (S := fun w' => (∀ b o, b < w5.heap.size → w'.cell? ⟨b, o, none⟩ = w5.cell? ⟨b, o, none⟩) ∧ Below w5.heap.size w5 w') (by kernel_rfl) ?_
  change wpAnyH _ _ _ _ _ _ _ _ w5.drew
  refine wpAnyH_take (i := 0) (v := ?_) rfl (by kernel_rfl) (by kernel_rfl) (by kernel_rfl) (fun _ _ _ h => h) (Or.inl ⟨by kernel_rfl, ?_⟩) (by assumption) ?_
  rotate_left 1
  · (intro w hSw; obtain ⟨hk1, hk2⟩ := hSw; go_simp <;> with_reducible rfl)
  simp only [Act.put, List.getElem_toArray, List.getElem_cons_zero, List.setIfInBounds_toArray, List.set_cons_zero, List.set_cons_succ]
  refine wpAnyH_take (i := 1) (v := ?_) rfl (by kernel_rfl) (by kernel_rfl) (by kernel_rfl) (fun _ _ _ h => h) (Or.inl ⟨by kernel_rfl, ?_⟩) (by assumption) ?_
  rotate_left 1
  · (intro w hSw; obtain ⟨hk1, hk2⟩ := hSw; go_simp <;> with_reducible rfl)
  simp only [Act.put, List.getElem_toArray, List.getElem_cons_zero, List.getElem_cons_succ, List.setIfInBounds_toArray, List.set_cons_zero, List.set_cons_succ]
  refine wpAnyH_take (i := 2) (v := ?_) rfl (by kernel_rfl) (by kernel_rfl) (by kernel_rfl) (fun _ _ _ h => h) (Or.inl ⟨by kernel_rfl, ?_⟩) (by assumption) ?_
  rotate_left 1
  · (intro w hSw; obtain ⟨hk1, hk2⟩ := hSw; go_simp <;> with_reducible rfl)
  simp only [Act.put, List.getElem_toArray, List.getElem_cons_zero, List.getElem_cons_succ, List.setIfInBounds_toArray, List.set_cons_zero, List.set_cons_succ]
  refine wpAnyH_take (i := 3) (v := ?_) rfl (by kernel_rfl) (by kernel_rfl) (by kernel_rfl) (fun _ _ _ h => h) (Or.inl ⟨by kernel_rfl, ?_⟩) (by assumption) ?_
  rotate_left 1
  · (intro w hSw; obtain ⟨hk1, hk2⟩ := hSw; go_simp <;> with_reducible rfl)
  simp only [Act.put, List.getElem_toArray, List.getElem_cons_zero, List.getElem_cons_succ, List.setIfInBounds_toArray, List.set_cons_zero, List.set_cons_succ]
  refine wpAnyH_take (i := 4) (v := ?_) rfl (by kernel_rfl) (by kernel_rfl) (by kernel_rfl) (fun _ _ _ h => h) (Or.inl ⟨by kernel_rfl, ?_⟩) (by assumption) ?_
  rotate_left 1
  · (intro w hSw; obtain ⟨hk1, hk2⟩ := hSw; go_simp <;> with_reducible rfl)
  simp only [Act.put, List.getElem_toArray, List.getElem_cons_zero, List.getElem_cons_succ, List.setIfInBounds_toArray, List.set_cons_zero, List.set_cons_succ]
  refine wpAnyH_take (i := 5) (v := ?_) rfl (by kernel_rfl) (by kernel_rfl) (by kernel_rfl) (fun _ _ _ h => h) (Or.inl ⟨by kernel_rfl, ?_⟩) (by assumption) ?_
  rotate_left 1
  · (intro w hSw; obtain ⟨hk1, hk2⟩ := hSw; go_simp <;> with_reducible rfl)
  simp only [Act.put, List.getElem_toArray, List.getElem_cons_zero, List.getElem_cons_succ, List.setIfInBounds_toArray, List.set_cons_zero, List.set_cons_succ]
  refine wpAnyH_take (i := 6) (v := ?_) rfl (by kernel_rfl) (by kernel_rfl) (by kernel_rfl) (fun _ _ _ h => h) (Or.inl ⟨by kernel_rfl, ?_⟩) (by assumption) ?_
  rotate_left 1
  · (intro w hSw; obtain ⟨hk1, hk2⟩ := hSw; go_simp <;> with_reducible rfl)
  simp only [Act.put, List.getElem_toArray, List.getElem_cons_zero, List.getElem_cons_succ, List.setIfInBounds_toArray, List.set_cons_zero, List.set_cons_succ]
  refine wpAnyH_take (i := 7) (v := ?_) rfl (by kernel_rfl) (by kernel_rfl) (by kernel_rfl) (fun _ _ _ h => h) (Or.inl ⟨by kernel_rfl, ?_⟩) (by assumption) ?_
  rotate_left 1
  · (intro w hSw; obtain ⟨hk1, hk2⟩ := hSw; go_simp <;> with_reducible rfl)
  simp only [Act.put, List.getElem_toArray, List.getElem_cons_zero, List.getElem_cons_succ, List.setIfInBounds_toArray, List.set_cons_zero, List.set_cons_succ]
  refine nextH (i := 8) (by kernel_rfl) rfl (fun K hK => ?_)
  go_simp
  refine (HLA.out _).mono ?_
  rintro e_ w6 ⟨rfl, hb6⟩
  have hS' := kp (bel_tr hSd.2 hSd.2.size hb6)
  try dsimp only
  refine hK _ _ hS' ?_
  clear hK K hSd
  have hSd := hS'
  clear hS'
  refine wpAnyH_take (i := 9) (v := ?_) rfl (by kernel_rfl) (by kernel_rfl) (by kernel_rfl) (fun _ _ _ h => h) (Or.inl ⟨by kernel_rfl, ?_⟩) (by assumption) ?_
  rotate_left 1
  · (intro w hSw; obtain ⟨hk1, hk2⟩ := hSw; go_simp <;> with_reducible rfl)
  simp only [Act.put, List.getElem_toArray, List.getElem_cons_zero, List.getElem_cons_succ, List.setIfInBounds_toArray, List.set_cons_zero, List.set_cons_succ]
  refine wpAnyH_take (i := 10) (v := ?_) rfl (by kernel_rfl) (by kernel_rfl) (by kernel_rfl) (fun _ _ _ h => h) (Or.inl ⟨by kernel_rfl, ?_⟩) (by assumption) ?_
  rotate_left 1
  · (intro w hSw; obtain ⟨hk1, hk2⟩ := hSw; go_simp <;> with_reducible rfl)
  simp only [Act.put, List.getElem_toArray, List.getElem_cons_zero, List.getElem_cons_succ, List.setIfInBounds_toArray, List.set_cons_zero, List.set_cons_succ]
  refine wpAnyH_done (by kernel_rfl) ?_ _
  have hb5_6 : Below w5.heap.size w5 w6 := hSd.2
  have kS6 := kS5.bel hb5_6
  have kL6 := kL5.bel hb5_6
  have kF6 := kF5.bel hb5_6
  have kK6 := kK5.bel hb5_6
  have hr6 := hr5.bel hb5_6
  have hB6 : Below q w w6 := hB5.trans (hb5_6.mono z5)
  have z6 : q ≤ w6.heap.size := by have := hb5_6.size; omega
  have ykS_6 := kS6.lt
  have ykL_6 := kL6.lt
  have ykF_6 := kF6.lt
  have ykK_6 := kK6.lt
  clear s0 s1 t0 t1 p0 p1 o0 o1 o2 hB5 z5 hb5_6 kS5 kL5 kF5 kK5 hr5 ykS_5 ykL_5 ykF_5 ykK_5
  have s0 := kS6.cell 0; have s1 := kS6.cell 1; simp only [List.getElem?_cons_zero, List.getElem?_cons_succ] at s0 s1
  have t0 := kL6.cell 0; have t1 := kL6.cell 1; simp only [List.getElem?_cons_zero, List.getElem?_cons_succ] at t0 t1
  have p0 := kF6.cell 0; have p1 := kF6.cell 1; simp only [List.getElem?_cons_zero, List.getElem?_cons_succ] at p0 p1
  have o0 := kK6.cell 0; have o1 := kK6.cell 1; have o2 := kK6.cell 2; simp only [List.getElem?_cons_zero, List.getElem?_cons_succ] at o0 o1 o2
  clear hSd hb6
  go_upto_region 16 with fail
  go_upto_region 17 with (go_at_call 53; refine (HSE.out _ hr6).mono ?_; rintro e_ w7 ⟨rfl, hb7⟩)
  have hb6_7 : Below w6.heap.size w6 w7 := hb7
  have kS7 := kS6.bel hb6_7
  have kL7 := kL6.bel hb6_7
  have kF7 := kF6.bel hb6_7
  have kK7 := kK6.bel hb6_7
  have hr7 := hr6.bel hb6_7
  have hB7 : Below q w w7 := hB6.trans (hb6_7.mono z6)
  have z7 : q ≤ w7.heap.size := by have := hb6_7.size; omega
  have ykS_7 := kS7.lt
  have ykL_7 := kL7.lt
  have ykF_7 := kF7.lt
  have ykK_7 := kK7.lt
  clear s0 s1 t0 t1 p0 p1 o0 o1 o2 hB6 z6 hb6_7 kS6 kL6 kF6 kK6 hr6 ykS_6 ykL_6 ykF_6 ykK_6
  have s0 := kS7.cell 0; have s1 := kS7.cell 1; simp only [List.getElem?_cons_zero, List.getElem?_cons_succ] at s0 s1
  have t0 := kL7.cell 0; have t1 := kL7.cell 1; simp only [List.getElem?_cons_zero, List.getElem?_cons_succ] at t0 t1
  have p0 := kF7.cell 0; have p1 := kF7.cell 1; simp only [List.getElem?_cons_zero, List.getElem?_cons_succ] at p0 p1
  have o0 := kK7.cell 0; have o1 := kK7.cell 1; have o2 := kK7.cell 2; simp only [List.getElem?_cons_zero, List.getElem?_cons_succ] at o0 o1 o2
  clear hb7
  go_upto_region 24 with (first
    | (go_at_call 24; refine (HFE.out _).mono ?_; rintro e_ w_ ⟨rfl, rfl⟩)
    | (go_at_call 54; refine (HRS.out _ hr7).mono ?_; rintro e_ w8 ⟨rfl, hb8⟩))
  obtain ⟨b3, hb3e⟩ : ∃ b3, w8.heap.size = b3 := ⟨_, rfl⟩
  obtain ⟨w9, hw9⟩ : ∃ w9, w8.alloc (.cells #[.int .i64 k1, .int .i64 k2, .int .i64 k3] 87) = w9 := ⟨_, rfl⟩
  have b89 : Below w8.heap.size w8 w9 := by rw [← hw9]; exact alloc_bel _ _
  have kM9 : Blk w9 b3 87 [.int .i64 k1, .int .i64 k2, .int .i64 k3] := by rw [← hw9, ← hb3e]; exact Blk.new w8 _ [_, _, _]
  rw [hw9]
  try simp only [hb3e]
  clear hw9 hb3e
  have hb79 := bel_tr hb8 hb8.size b89
  have hb7_9 : Below w7.heap.size w7 w9 := hb79
  have kS9 := kS7.bel hb7_9
  have kL9 := kL7.bel hb7_9
  have kF9 := kF7.bel hb7_9
  have kK9 := kK7.bel hb7_9
  have hr9 := hr7.bel hb7_9
  have hB9 : Below q w w9 := hB7.trans (hb7_9.mono z7)
  have z9 : q ≤ w9.heap.size := by have := hb7_9.size; omega
  have ykS_9 := kS9.lt
  have ykL_9 := kL9.lt
  have ykF_9 := kF9.lt
  have ykK_9 := kK9.lt
  clear s0 s1 t0 t1 p0 p1 o0 o1 o2 hB7 z7 hb7_9 kS7 kL7 kF7 kK7 hr7 ykS_7 ykL_7 ykF_7 ykK_7
  have s0 := kS9.cell 0; have s1 := kS9.cell 1; simp only [List.getElem?_cons_zero, List.getElem?_cons_succ] at s0 s1
  have t0 := kL9.cell 0; have t1 := kL9.cell 1; simp only [List.getElem?_cons_zero, List.getElem?_cons_succ] at t0 t1
  have p0 := kF9.cell 0; have p1 := kF9.cell 1; simp only [List.getElem?_cons_zero, List.getElem?_cons_succ] at p0 p1
  have o0 := kK9.cell 0; have o1 := kK9.cell 1; have o2 := kK9.cell 2; simp only [List.getElem?_cons_zero, List.getElem?_cons_succ] at o0 o1 o2
  clear hb79 hb8 b89
  have ykM := kM9.lt
  have m0 := kM9.cell 0; have m1 := kM9.cell 1; have m2 := kM9.cell 2; simp only [List.getElem?_cons_zero, List.getElem?_cons_succ] at m0 m1 m2
  go_wp2
  go_ret
  exact ⟨rfl, by first | exact hB9 | (rw [hq]; exact hB9)⟩
set_option maxHeartbeats 16000000 in
theorem skipsLaw_od0 (H f x0 x1 : Int) (A : Option Addr) (c : Nat) (l : List G) (w : World) (hr : Rd w A (gs l)) (hl : l.length ≤ 14) (hg : gridE x0 = 0) (hx : outB x1 0 (x0 - 1) = false) (he : (skyE H l).2 = 0) (hf : freqE f = 0) (hfd : (skAll H f x0.toNat l (List.range x0.toNat)).1 = false) :
    Calls Try.prog 7 #[.agg #[.int .i64 H, .slice A l.length c], .int .i64 f, .agg #[.int .i64 x0, .int .i64 x1]] w fun r w' => r = .returned (.bool true) ∧ Below w.heap.size w w' := by
  have HCP := hide (fun W (h : Rd W A (gs l)) => copySky_c H A c l W h (by omega))
  have HFW := hide (fun W => few_c H A c l W)
  rw [decide_eq_true (show (l.length : Int) ≤ 14 by omega)] at HFW
  have HGE := hide (fun W => refGridErr_c x0 W)
  have HSE := hide (fun W (h : Rd W A (gs l)) => refSkyErr_c H A c l W h (by omega))
  have HFE := hide (fun W => frequencyErr_c f W)
  have HLO := hide (fun W => launchOf_c x0 x1 W)
  have HSK := hide (fun A' c' W (h : Rd W A' (gs l)) h' => skipOf_c H f x0 A' c' l W h (by omega) h')
  have hg1 := gridE_zero hg
  have HWI := hide (fun W => within_c x1 0 (x0 - 1) W)
  rw [hx] at HWI
  have hle : lauE x0 x1 = 0 := by unfold lauE; rw [hg, wrap64_id (by omega) (by omega), hx]; rfl
  rw [show lauQ x0 x1 = (redQ x1 x0, 0) by unfold lauQ; rw [if_neg (by rw [hle]; simp)]] at HLO
  have hx1 := outB_false.1 hx
  have HLA := hide (fun W => refLaunch_c x0 x1 W (by omega) (by omega) (by omega) (by omega))
  generalize redQ x1 x0 = z at HLO HLA
  obtain ⟨za, zb⟩ := z
  have hsk : skpE H f x0 l = 0 := by unfold skpE; rw [he, hf, hg]; rfl
  obtain ⟨H0, H1, l0, l1, hok⟩ := skyE_zero he
  have hf1 := freqE_zero hf
  have HRS := hide (fun W (h : Rd W A (gs l)) => refSkip_c H f x0.toNat A c l W h H0 H1 l0 l1 hok hf1.1 hf1.2 (by omega) (by omega))
  rw [show ((x0.toNat : Nat) : Int) = x0 by omega] at HRS
  rw [show skpQ H f x0 l = ((skAll H f x0.toNat l (List.range x0.toNat)).2, errIf (!(skAll H f x0.toNat l (List.range x0.toNat)).1) 12) by unfold skpQ; rw [if_neg (by rw [hsk]; simp)]] at HSK
  rw [he] at HSE
  rw [hf] at HFE
  rw [skAll_none _ hfd] at HSK HRS
  rw [show errIf (!false) 12 = 12 from rfl] at HSK
  clear hsk hok H0 H1 l0 l1 hf1
  dsimp only at HSK HLO
  dsimp only at HRS
  dsimp only at HLA
  rw [hg] at HGE
  clear hle
  try clear he
  try clear hf
  try clear hfd
  try clear hg
  try clear hx
  obtain ⟨q, hq⟩ : ∃ q, w.heap.size = q := ⟨_, rfl⟩
  obtain ⟨q1, hq1⟩ : ∃ q1, q + 1 = q1 := ⟨_, rfl⟩
  obtain ⟨Wa, hWa⟩ : ∃ Wa, w.alloc (.cells #[.int .i64 H, .slice A l.length c] 24) = Wa := ⟨_, rfl⟩
  have ba : Below w.heap.size w Wa := by rw [← hWa]; exact alloc_bel _ _
  have sa : Wa.heap.size = q1 := by rw [← hWa, ← hq1, ← hq]; simp
  have ka : Blk Wa q 24 [.int .i64 H, .slice A l.length c] := by rw [← hWa, ← hq]; exact Blk.new w _ [_, _]
  obtain ⟨w0, hWb⟩ : ∃ w0, Wa.alloc (.cells #[.int .i64 x0, .int .i64 x1] 83) = w0 := ⟨_, rfl⟩
  have bb : Below Wa.heap.size Wa w0 := by rw [← hWb]; exact alloc_bel _ _
  have kL0 : Blk w0 q1 83 [.int .i64 x0, .int .i64 x1] := by rw [← hWb, ← sa]; exact Blk.new Wa _ [_, _]
  have hAB : (w.alloc (.cells #[.int .i64 H, .slice A l.length c] 24)).alloc (.cells #[.int .i64 x0, .int .i64 x1] 83) = w0 := by rw [hWa, hWb]
  have HW := hide hAB
  have kS0 := ka.bel bb
  have hr0 := (hr.bel ba).bel bb
  have hB0 : Below q w w0 := by
    rw [hq] at ba
    exact ba.trans (bb.mono (by omega))
  have z0 : q ≤ w0.heap.size := by have := kS0.lt; omega
  clear hAB hWa hWb ba bb ka sa
  have ykS_0 := kS0.lt
  have ykL_0 := kL0.lt
  have s0 := kS0.cell 0; have s1 := kS0.cell 1; simp only [List.getElem?_cons_zero, List.getElem?_cons_succ] at s0 s1
  have t0 := kL0.cell 0; have t1 := kL0.cell 1; simp only [List.getElem?_cons_zero, List.getElem?_cons_succ] at t0 t1
  go_enter Try.func7, Try.ntmps7
  go_upto_region 1 with fail
  try simp only [World.size_alloc, hq, hq1]
  rw [HW.out]
  go_upto_region 3 with (go_at_call 15; refine (awake_c _).mono ?_; rintro e_ w1 ⟨rfl, hb1⟩)
  have hb0_1 : Below w0.heap.size w0 w1 := hb1
  have kS1 := kS0.bel hb0_1
  have kL1 := kL0.bel hb0_1
  have hr1 := hr0.bel hb0_1
  have hB1 : Below q w w1 := hB0.trans (hb0_1.mono z0)
  have z1 : q ≤ w1.heap.size := by have := hb0_1.size; omega
  have ykS_1 := kS1.lt
  have ykL_1 := kL1.lt
  clear s0 s1 t0 t1 hB0 z0 hb0_1 kS0 kL0 hr0 ykS_0 ykL_0
  have s0 := kS1.cell 0; have s1 := kS1.cell 1; simp only [List.getElem?_cons_zero, List.getElem?_cons_succ] at s0 s1
  have t0 := kL1.cell 0; have t1 := kL1.cell 1; simp only [List.getElem?_cons_zero, List.getElem?_cons_succ] at t0 t1
  go_upto_region 5 with (go_at_call 16; refine (HFW.out _).mono ?_; rintro e_ w2 ⟨rfl, hb2⟩)
  have hb1_2 : Below w1.heap.size w1 w2 := hb2
  have kS2 := kS1.bel hb1_2
  have kL2 := kL1.bel hb1_2
  have hr2 := hr1.bel hb1_2
  have hB2 : Below q w w2 := hB1.trans (hb1_2.mono z1)
  have z2 : q ≤ w2.heap.size := by have := hb1_2.size; omega
  have ykS_2 := kS2.lt
  have ykL_2 := kL2.lt
  clear s0 s1 t0 t1 hB1 z1 hb1_2 kS1 kL1 hr1 ykS_1 ykL_1
  have s0 := kS2.cell 0; have s1 := kS2.cell 1; simp only [List.getElem?_cons_zero, List.getElem?_cons_succ] at s0 s1
  have t0 := kL2.cell 0; have t1 := kL2.cell 1; simp only [List.getElem?_cons_zero, List.getElem?_cons_succ] at t0 t1
  go_upto_region 6 with (go_at_call 49; refine (HLO.out _).mono ?_; rintro e_ w3 ⟨rfl, hb3⟩)
  obtain ⟨b1, hb1e⟩ : ∃ b1, w3.heap.size = b1 := ⟨_, rfl⟩
  obtain ⟨w4, hw4⟩ : ∃ w4, w3.alloc (.cells #[.int .i64 za, .int .i64 zb] 26) = w4 := ⟨_, rfl⟩
  have b34 : Below w3.heap.size w3 w4 := by rw [← hw4]; exact alloc_bel _ _
  have kF4 : Blk w4 b1 26 [.int .i64 za, .int .i64 zb] := by rw [← hw4, ← hb1e]; exact Blk.new w3 _ [_, _]
  rw [hw4]
  try simp only [hb1e]
  clear hw4 hb1e
  have hb24 := bel_tr hb3 hb3.size b34
  have hb2_4 : Below w2.heap.size w2 w4 := hb24
  have kS4 := kS2.bel hb2_4
  have kL4 := kL2.bel hb2_4
  have hr4 := hr2.bel hb2_4
  have hB4 : Below q w w4 := hB2.trans (hb2_4.mono z2)
  have z4 : q ≤ w4.heap.size := by have := hb2_4.size; omega
  have ykS_4 := kS4.lt
  have ykL_4 := kL4.lt
  clear s0 s1 t0 t1 hB2 z2 hb2_4 kS2 kL2 hr2 ykS_2 ykL_2
  have s0 := kS4.cell 0; have s1 := kS4.cell 1; simp only [List.getElem?_cons_zero, List.getElem?_cons_succ] at s0 s1
  have t0 := kL4.cell 0; have t1 := kL4.cell 1; simp only [List.getElem?_cons_zero, List.getElem?_cons_succ] at t0 t1
  clear hb24 hb3 b34
  have ykF_4 := kF4.lt
  have p0 := kF4.cell 0; have p1 := kF4.cell 1; simp only [List.getElem?_cons_zero, List.getElem?_cons_succ] at p0 p1
  go_cut [9, 10] from 28 to 36 (fun x y wx => ∃ b : Nat, x = .pointer (some ⟨b, 0, none⟩) ∧ y = .int .i64 12 ∧ Blk wx b 87 [.int .i64 0, .int .i64 0, .int .i64 0] ∧ Below w4.heap.size w4 wx ∧ w4.heap.size ≤ b)
  case first =>
    have hSd : (∀ b o, b < w4.heap.size → w4.drew.cell? ⟨b, o, none⟩ = w4.cell? ⟨b, o, none⟩) ∧ Below w4.heap.size w4 w4.drew := kp (Below.refl _ _).drew
    refine wp_region_held (S := fun w' => (∀ b o, b < w4.heap.size → w'.cell? ⟨b, o, none⟩ = w4.cell? ⟨b, o, none⟩) ∧ Below w4.heap.size w4 w') (by kernel_rfl) ?_
    change wpAnyH _ _ _ _ _ _ _ _ w4.drew
    refine wpAnyH_take (i := 0) (v := ?_) rfl (by kernel_rfl) (by kernel_rfl) (by kernel_rfl) (fun _ _ _ h => h) (Or.inl ⟨by kernel_rfl, ?_⟩) (by assumption) ?_
    rotate_left 1
    · (intro w hSw; obtain ⟨hk1, hk2⟩ := hSw; go_simp <;> with_reducible rfl)
    simp only [Act.put, List.getElem_toArray, List.getElem_cons_zero, List.setIfInBounds_toArray, List.set_cons_zero, List.set_cons_succ]
    refine wpAnyH_take (i := 2) (v := ?_) rfl (by kernel_rfl) (by kernel_rfl) (by kernel_rfl) (fun _ _ _ h => h) (Or.inl ⟨by kernel_rfl, ?_⟩) (by assumption) ?_
    rotate_left 1
    · (intro w hSw; obtain ⟨hk1, hk2⟩ := hSw; go_simp <;> with_reducible rfl)
    simp only [Act.put, List.getElem_toArray, List.getElem_cons_zero, List.getElem_cons_succ, List.setIfInBounds_toArray, List.set_cons_zero, List.set_cons_succ]
    refine wpAnyH_take (i := 3) (v := ?_) rfl (by kernel_rfl) (by kernel_rfl) (by kernel_rfl) (fun _ _ _ h => h) (Or.inl ⟨by kernel_rfl, ?_⟩) (by assumption) ?_
    rotate_left 1
    · (intro w hSw; obtain ⟨hk1, hk2⟩ := hSw; go_simp <;> with_reducible rfl)
    simp only [Act.put, List.getElem_toArray, List.getElem_cons_zero, List.getElem_cons_succ, List.setIfInBounds_toArray, List.set_cons_zero, List.set_cons_succ]
    refine wpAnyH_take (i := 4) (v := ?_) rfl (by kernel_rfl) (by kernel_rfl) (by kernel_rfl) (fun _ _ _ h => h) (Or.inl ⟨by kernel_rfl, ?_⟩) (by assumption) ?_
    rotate_left 1
    · (intro w hSw; obtain ⟨hk1, hk2⟩ := hSw; go_simp <;> with_reducible rfl)
    simp only [Act.put, List.getElem_toArray, List.getElem_cons_zero, List.getElem_cons_succ, List.setIfInBounds_toArray, List.set_cons_zero, List.set_cons_succ]
    refine nextH2 (i := 1) (j := 9) (by kernel_rfl) rfl rfl (fun K hK => ?_) (fun K hK => ?_)
    ·
      go_simp
      refine (HCP.out _ (hr4.bel hSd.2)).mono ?_
      rintro e_ wa ⟨⟨A1, c1, rfl, ra1, rc1⟩, hbx⟩
      have hS' := kp (bel_tr hSd.2 hSd.2.size hbx)
      try dsimp only
      refine hK _ _ hS' ?_
      clear hK K hSd
      have hSd := hS'
      clear hS'
      refine nextH2 (i := 5) (j := 9) (by kernel_rfl) rfl rfl (fun K hK => ?_) (fun K hK => ?_)
      ·
        go_simp
        refine (HSK.out _ _ _ ra1 rc1).mono ?_
        rintro e_ wx ⟨rfl, hby⟩
        have hS' := kp (bel_tr hSd.2 hSd.2.size hby)
        try dsimp only
        refine hK _ _ hS' ?_
        clear hK K hSd
        have hSd := hS'
        clear hS'
        refine wpAnyH_take (i := 6) (v := ?_) rfl (by kernel_rfl) (by kernel_rfl) (by kernel_rfl) (fun _ _ _ h => h) (Or.inl ⟨by kernel_rfl, ?_⟩) (by assumption) ?_
        rotate_left 1
        · (intro w hSw; obtain ⟨hk1, hk2⟩ := hSw; go_simp <;> with_reducible rfl)
        simp only [Act.put, List.getElem_toArray, List.getElem_cons_zero, List.getElem_cons_succ, List.setIfInBounds_toArray, List.set_cons_zero, List.set_cons_succ]
        refine wpAnyH_take (i := 7) (v := ?_) rfl (by kernel_rfl) (by kernel_rfl) (by kernel_rfl) (fun _ _ _ h => h) (Or.inl ⟨by kernel_rfl, ?_⟩) (by assumption) ?_
        rotate_left 1
        · (intro w hSw; obtain ⟨hk1, hk2⟩ := hSw; go_simp <;> with_reducible rfl)
        simp only [Act.put, List.getElem_toArray, List.getElem_cons_zero, List.getElem_cons_succ, List.setIfInBounds_toArray, List.set_cons_zero, List.set_cons_succ]
        refine wpAnyH_take (i := 8) (v := ?_) rfl (by kernel_rfl) (by kernel_rfl) (by kernel_rfl) (fun _ _ _ h => h) (Or.inl ⟨by kernel_rfl, ?_⟩) (by assumption) ?_
        rotate_left 1
        · (intro w hSw; obtain ⟨hk1, hk2⟩ := hSw; go_simp <;> with_reducible rfl)
        simp only [Act.put, List.getElem_toArray, List.getElem_cons_zero, List.getElem_cons_succ, List.setIfInBounds_toArray, List.set_cons_zero, List.set_cons_succ]
        refine nextH (i := 9) (by kernel_rfl) rfl (fun K hK => ?_)
        go_simp
        have hBl := Blk.new wx 87 [.int .i64 0, .int .i64 0, .int .i64 0]
        have hvr : w4.heap.size ≤ (wx).heap.size := hSd.2.size
        have hS' := kp (bel_alloc hSd.2 hSd.2.size (.cells #[.int .i64 0, .int .i64 0, .int .i64 0] 87))
        refine hK _ _ hS' ?_
        clear hK K hSd
        have hSd := hS'
        clear hS'
        obtain ⟨bb, hbb⟩ : ∃ bb, wx.heap.size = bb := ⟨_, rfl⟩
        obtain ⟨Wy, hWy⟩ : ∃ Wy, wx.alloc (.cells #[.int .i64 0, .int .i64 0, .int .i64 0] 87) = Wy := ⟨_, rfl⟩
        rw [hWy] at hSd hBl ⊢
        rw [hbb] at hBl hvr
        try simp only [hbb]
        clear hWy hbb
        obtain ⟨x0, x1, x2⟩ : (Wy).cell? ⟨bb, 0, none⟩ = some (.int .i64 0) ∧ (Wy).cell? ⟨bb, 1, none⟩ = some (.int .i64 0) ∧ (Wy).cell? ⟨bb, 2, none⟩ = some (.int .i64 0) := ⟨hBl.cell 0, hBl.cell 1, hBl.cell 2⟩
        obtain ⟨f0, f1, f2⟩ : (Wy).frozen? ⟨bb, 0, none⟩ = false ∧ (Wy).frozen? ⟨bb, 1, none⟩ = false ∧ (Wy).frozen? ⟨bb, 2, none⟩ = false := ⟨hBl.frozen 0, hBl.frozen 1, hBl.frozen 2⟩
        have zb := hBl.lt
        refine nextH (i := 10) (by kernel_rfl) rfl (fun K hK => ?_)
        go_simp
        obtain ⟨WE, hWE⟩ : ∃ WE, ((((Wy).setCell ⟨bb, 0, none⟩ (.int .i64 0)).setCell ⟨bb, 1, none⟩ (.int .i64 0)).setCell ⟨bb, 2, none⟩ (.int .i64 0)) = WE := ⟨_, rfl⟩
        rw [hWE]
        have hE : Blk WE (bb) 87 [.int .i64 0, .int .i64 0, .int .i64 0] := by rw [← hWE]; exact (((hBl.set_ 0 _).set_ 1 _).set_ 2 _)
        have hbE : Below w4.heap.size w4 WE := by rw [← hWE]; exact (((hSd.2.setCell hvr _).setCell hvr _).setCell hvr _)
        clear hWE x0 f0 x1 f1 x2 f2
        refine hK _ _ (kp hbE) ?_
        clear hK K
        refine nextH (i := 11) (by kernel_rfl) rfl (fun K hK => ?_)
        go_simp
        refine hK _ _ (kp hbE) ?_
        clear hK K
        refine wpAnyH_done (by kernel_rfl) ?_ _
        go_wp2
        go_meet
        exact ⟨_, rfl, rfl, hE, hbE, hvr⟩
      ·
        go_simp
        have hBl := Blk.new wa 87 [.int .i64 0, .int .i64 0, .int .i64 0]
        have hvr : w4.heap.size ≤ (wa).heap.size := hSd.2.size
        have hS' := kp (bel_alloc hSd.2 hSd.2.size (.cells #[.int .i64 0, .int .i64 0, .int .i64 0] 87))
        refine hK _ _ hS' ?_
        clear hK K hSd
        have hSd := hS'
        clear hS'
        obtain ⟨bb, hbb⟩ : ∃ bb, wa.heap.size = bb := ⟨_, rfl⟩
        obtain ⟨Wy, hWy⟩ : ∃ Wy, wa.alloc (.cells #[.int .i64 0, .int .i64 0, .int .i64 0] 87) = Wy := ⟨_, rfl⟩
        replace ra1 := ra1.bel (alloc_bel wa (.cells #[.int .i64 0, .int .i64 0, .int .i64 0] 87))
        rw [hWy] at hSd hBl ra1 ⊢
        rw [hbb] at hBl hvr
        try simp only [hbb]
        clear hWy hbb
        refine nextH (i := 5) (by kernel_rfl) rfl (fun K hK => ?_)
        go_simp
        refine (HSK.out _ _ _ ra1 rc1).mono ?_
        rintro e_ wx ⟨rfl, hby⟩
        have hS' := kp (bel_tr hSd.2 hSd.2.size hby)
        try dsimp only
        refine hK _ _ hS' ?_
        clear hK K hSd
        have hSd := hS'
        clear hS'
        replace hBl := hBl.bel hby
        refine wpAnyH_take (i := 6) (v := ?_) rfl (by kernel_rfl) (by kernel_rfl) (by kernel_rfl) (fun _ _ _ h => h) (Or.inl ⟨by kernel_rfl, ?_⟩) (by assumption) ?_
        rotate_left 1
        · (intro w hSw; obtain ⟨hk1, hk2⟩ := hSw; go_simp <;> with_reducible rfl)
        simp only [Act.put, List.getElem_toArray, List.getElem_cons_zero, List.getElem_cons_succ, List.setIfInBounds_toArray, List.set_cons_zero, List.set_cons_succ]
        refine wpAnyH_take (i := 7) (v := ?_) rfl (by kernel_rfl) (by kernel_rfl) (by kernel_rfl) (fun _ _ _ h => h) (Or.inl ⟨by kernel_rfl, ?_⟩) (by assumption) ?_
        rotate_left 1
        · (intro w hSw; obtain ⟨hk1, hk2⟩ := hSw; go_simp <;> with_reducible rfl)
        simp only [Act.put, List.getElem_toArray, List.getElem_cons_zero, List.getElem_cons_succ, List.setIfInBounds_toArray, List.set_cons_zero, List.set_cons_succ]
        refine wpAnyH_take (i := 8) (v := ?_) rfl (by kernel_rfl) (by kernel_rfl) (by kernel_rfl) (fun _ _ _ h => h) (Or.inl ⟨by kernel_rfl, ?_⟩) (by assumption) ?_
        rotate_left 1
        · (intro w hSw; obtain ⟨hk1, hk2⟩ := hSw; go_simp <;> with_reducible rfl)
        simp only [Act.put, List.getElem_toArray, List.getElem_cons_zero, List.getElem_cons_succ, List.setIfInBounds_toArray, List.set_cons_zero, List.set_cons_succ]
        obtain ⟨x0, x1, x2⟩ : (wx).cell? ⟨bb, 0, none⟩ = some (.int .i64 0) ∧ (wx).cell? ⟨bb, 1, none⟩ = some (.int .i64 0) ∧ (wx).cell? ⟨bb, 2, none⟩ = some (.int .i64 0) := ⟨hBl.cell 0, hBl.cell 1, hBl.cell 2⟩
        obtain ⟨f0, f1, f2⟩ : (wx).frozen? ⟨bb, 0, none⟩ = false ∧ (wx).frozen? ⟨bb, 1, none⟩ = false ∧ (wx).frozen? ⟨bb, 2, none⟩ = false := ⟨hBl.frozen 0, hBl.frozen 1, hBl.frozen 2⟩
        have zb := hBl.lt
        refine nextH (i := 10) (by kernel_rfl) rfl (fun K hK => ?_)
        go_simp
        obtain ⟨WE, hWE⟩ : ∃ WE, ((((wx).setCell ⟨bb, 0, none⟩ (.int .i64 0)).setCell ⟨bb, 1, none⟩ (.int .i64 0)).setCell ⟨bb, 2, none⟩ (.int .i64 0)) = WE := ⟨_, rfl⟩
        rw [hWE]
        have hE : Blk WE (bb) 87 [.int .i64 0, .int .i64 0, .int .i64 0] := by rw [← hWE]; exact (((hBl.set_ 0 _).set_ 1 _).set_ 2 _)
        have hbE : Below w4.heap.size w4 WE := by rw [← hWE]; exact (((hSd.2.setCell hvr _).setCell hvr _).setCell hvr _)
        clear hWE x0 f0 x1 f1 x2 f2
        refine hK _ _ (kp hbE) ?_
        clear hK K
        refine nextH (i := 11) (by kernel_rfl) rfl (fun K hK => ?_)
        go_simp
        refine hK _ _ (kp hbE) ?_
        clear hK K
        refine wpAnyH_done (by kernel_rfl) ?_ _
        go_wp2
        go_meet
        exact ⟨_, rfl, rfl, hE, hbE, hvr⟩
    ·
      go_simp
      have hB6 : Below w4.heap.size w4 (w4.alloc (.cells #[.int .i64 0, .int .i64 0, .int .i64 0] 87)).drew := (alloc_bel w4 _).drew
      have hBl0 : Blk (w4.alloc (.cells #[.int .i64 0, .int .i64 0, .int .i64 0] 87)).drew w4.heap.size 87 [.int .i64 0, .int .i64 0, .int .i64 0] := Blk.new w4 _ [.int .i64 0, .int .i64 0, .int .i64 0]
      refine hK _ _ (kp hB6) ?_
      clear hK K hSd
      have hSd := kp hB6
      have hvr : w4.heap.size ≤ w4.heap.size := Nat.le_refl _
      refine nextH (i := 1) (by kernel_rfl) rfl (fun K hK => ?_)
      go_simp
      refine (HCP.out _ (hr4.bel hSd.2)).mono ?_
      rintro e_ wa ⟨⟨A1, c1, rfl, ra1, rc1⟩, hbx⟩
      have hS' := kp (bel_tr hSd.2 hSd.2.size hbx)
      try dsimp only
      refine hK _ _ hS' ?_
      clear hK K hSd
      have hSd := hS'
      clear hS'
      have hBl1 := hBl0.bel hbx
      clear hBl0 hB6
      refine nextH (i := 5) (by kernel_rfl) rfl (fun K hK => ?_)
      go_simp
      refine (HSK.out _ _ _ ra1 rc1).mono ?_
      rintro e_ wx ⟨rfl, hby⟩
      have hS' := kp (bel_tr hSd.2 hSd.2.size hby)
      try dsimp only
      refine hK _ _ hS' ?_
      clear hK K hSd
      have hSd := hS'
      clear hS'
      have hBl := hBl1.bel hby
      clear hBl1
      refine wpAnyH_take (i := 6) (v := ?_) rfl (by kernel_rfl) (by kernel_rfl) (by kernel_rfl) (fun _ _ _ h => h) (Or.inl ⟨by kernel_rfl, ?_⟩) (by assumption) ?_
      rotate_left 1
      · (intro w hSw; obtain ⟨hk1, hk2⟩ := hSw; go_simp <;> with_reducible rfl)
      simp only [Act.put, List.getElem_toArray, List.getElem_cons_zero, List.getElem_cons_succ, List.setIfInBounds_toArray, List.set_cons_zero, List.set_cons_succ]
      refine wpAnyH_take (i := 7) (v := ?_) rfl (by kernel_rfl) (by kernel_rfl) (by kernel_rfl) (fun _ _ _ h => h) (Or.inl ⟨by kernel_rfl, ?_⟩) (by assumption) ?_
      rotate_left 1
      · (intro w hSw; obtain ⟨hk1, hk2⟩ := hSw; go_simp <;> with_reducible rfl)
      simp only [Act.put, List.getElem_toArray, List.getElem_cons_zero, List.getElem_cons_succ, List.setIfInBounds_toArray, List.set_cons_zero, List.set_cons_succ]
      refine wpAnyH_take (i := 8) (v := ?_) rfl (by kernel_rfl) (by kernel_rfl) (by kernel_rfl) (fun _ _ _ h => h) (Or.inl ⟨by kernel_rfl, ?_⟩) (by assumption) ?_
      rotate_left 1
      · (intro w hSw; obtain ⟨hk1, hk2⟩ := hSw; go_simp <;> with_reducible rfl)
      simp only [Act.put, List.getElem_toArray, List.getElem_cons_zero, List.getElem_cons_succ, List.setIfInBounds_toArray, List.set_cons_zero, List.set_cons_succ]
      obtain ⟨x0, x1, x2⟩ : (wx).cell? ⟨w4.heap.size, 0, none⟩ = some (.int .i64 0) ∧ (wx).cell? ⟨w4.heap.size, 1, none⟩ = some (.int .i64 0) ∧ (wx).cell? ⟨w4.heap.size, 2, none⟩ = some (.int .i64 0) := ⟨hBl.cell 0, hBl.cell 1, hBl.cell 2⟩
      obtain ⟨f0, f1, f2⟩ : (wx).frozen? ⟨w4.heap.size, 0, none⟩ = false ∧ (wx).frozen? ⟨w4.heap.size, 1, none⟩ = false ∧ (wx).frozen? ⟨w4.heap.size, 2, none⟩ = false := ⟨hBl.frozen 0, hBl.frozen 1, hBl.frozen 2⟩
      have zb := hBl.lt
      refine nextH (i := 10) (by kernel_rfl) rfl (fun K hK => ?_)
      go_simp
      obtain ⟨WE, hWE⟩ : ∃ WE, ((((wx).setCell ⟨w4.heap.size, 0, none⟩ (.int .i64 0)).setCell ⟨w4.heap.size, 1, none⟩ (.int .i64 0)).setCell ⟨w4.heap.size, 2, none⟩ (.int .i64 0)) = WE := ⟨_, rfl⟩
      rw [hWE]
      have hE : Blk WE (w4.heap.size) 87 [.int .i64 0, .int .i64 0, .int .i64 0] := by rw [← hWE]; exact (((hBl.set_ 0 _).set_ 1 _).set_ 2 _)
      have hbE : Below w4.heap.size w4 WE := by rw [← hWE]; exact (((hSd.2.setCell hvr _).setCell hvr _).setCell hvr _)
      clear hWE x0 f0 x1 f1 x2 f2
      refine hK _ _ (kp hbE) ?_
      clear hK K
      refine nextH (i := 11) (by kernel_rfl) rfl (fun K hK => ?_)
      go_simp
      refine hK _ _ (kp hbE) ?_
      clear hK K
      refine wpAnyH_done (by kernel_rfl) ?_ _
      go_wp2
      go_meet
      exact ⟨_, rfl, rfl, hE, hbE, hvr⟩
  obtain ⟨b2, rfl, rfl, kb2, hbb2, hgb2⟩ := hcut
  obtain ⟨w5, rfl⟩ : ∃ w5, w5 = wc := ⟨_, rfl⟩
  have hb4_5 : Below w4.heap.size w4 w5 := hbb2
  have kS5 := kS4.bel hb4_5
  have kL5 := kL4.bel hb4_5
  have kF5 := kF4.bel hb4_5
  have hr5 := hr4.bel hb4_5
  have hB5 : Below q w w5 := hB4.trans (hb4_5.mono z4)
  have z5 : q ≤ w5.heap.size := by have := hb4_5.size; omega
  have ykS_5 := kS5.lt
  have ykL_5 := kL5.lt
  have ykF_5 := kF5.lt
  clear s0 s1 t0 t1 p0 p1 hB4 z4 hb4_5 kS4 kL4 kF4 hr4 ykS_4 ykL_4 ykF_4
  have s0 := kS5.cell 0; have s1 := kS5.cell 1; simp only [List.getElem?_cons_zero, List.getElem?_cons_succ] at s0 s1
  have t0 := kL5.cell 0; have t1 := kL5.cell 1; simp only [List.getElem?_cons_zero, List.getElem?_cons_succ] at t0 t1
  have p0 := kF5.cell 0; have p1 := kF5.cell 1; simp only [List.getElem?_cons_zero, List.getElem?_cons_succ] at p0 p1
  clear hbb2 hgb2
  have kK5 := kb2
  have ykK_5 := kK5.lt
  have o0 := kK5.cell 0; have o1 := kK5.cell 1; have o2 := kK5.cell 2; simp only [List.getElem?_cons_zero, List.getElem?_cons_succ] at o0 o1 o2
  go_upto_region 14 with (first
    | (go_at_call 51; refine (HGE.out _).mono ?_; rintro e_ w_ ⟨rfl, rfl⟩)
    | (go_at_call 48; refine (HWI.out _).mono ?_; rintro e_ w_ ⟨rfl, rfl⟩))
  have hSd : (∀ b o, b < w5.heap.size → w5.drew.cell? ⟨b, o, none⟩ = w5.cell? ⟨b, o, none⟩) ∧ Below w5.heap.size w5 w5.drew := kp (Below.refl _ _).drew
  refine wp_region_held (S := fun w' => (∀ b o, b < w5.heap.size → w'.cell? ⟨b, o, none⟩ = w5.cell? ⟨b, o, none⟩) ∧ Below w5.heap.size w5 w') (by kernel_rfl) ?_
  change wpAnyH _ _ _ _ _ _ _ _ w5.drew
  refine wpAnyH_take (i := 0) (v := ?_) rfl (by kernel_rfl) (by kernel_rfl) (by kernel_rfl) (fun _ _ _ h => h) (Or.inl ⟨by kernel_rfl, ?_⟩) (by assumption) ?_
  rotate_left 1
  · (intro w hSw; obtain ⟨hk1, hk2⟩ := hSw; go_simp <;> with_reducible rfl)
  simp only [Act.put, List.getElem_toArray, List.getElem_cons_zero, List.setIfInBounds_toArray, List.set_cons_zero, List.set_cons_succ]
  refine wpAnyH_take (i := 1) (v := ?_) rfl (by kernel_rfl) (by kernel_rfl) (by kernel_rfl) (fun _ _ _ h => h) (Or.inl ⟨by kernel_rfl, ?_⟩) (by assumption) ?_
  rotate_left 1
  · (intro w hSw; obtain ⟨hk1, hk2⟩ := hSw; go_simp <;> with_reducible rfl)
  simp only [Act.put, List.getElem_toArray, List.getElem_cons_zero, List.getElem_cons_succ, List.setIfInBounds_toArray, List.set_cons_zero, List.set_cons_succ]
  refine wpAnyH_take (i := 2) (v := ?_) rfl (by kernel_rfl) (by kernel_rfl) (by kernel_rfl) (fun _ _ _ h => h) (Or.inl ⟨by kernel_rfl, ?_⟩) (by assumption) ?_
  rotate_left 1
  · (intro w hSw; obtain ⟨hk1, hk2⟩ := hSw; go_simp <;> with_reducible rfl)
  simp only [Act.put, List.getElem_toArray, List.getElem_cons_zero, List.getElem_cons_succ, List.setIfInBounds_toArray, List.set_cons_zero, List.set_cons_succ]
  refine wpAnyH_take (i := 3) (v := ?_) rfl (by kernel_rfl) (by kernel_rfl) (by kernel_rfl) (fun _ _ _ h => h) (Or.inl ⟨by kernel_rfl, ?_⟩) (by assumption) ?_
  rotate_left 1
  · (intro w hSw; obtain ⟨hk1, hk2⟩ := hSw; go_simp <;> with_reducible rfl)
  simp only [Act.put, List.getElem_toArray, List.getElem_cons_zero, List.getElem_cons_succ, List.setIfInBounds_toArray, List.set_cons_zero, List.set_cons_succ]
  refine wpAnyH_take (i := 4) (v := ?_) rfl (by kernel_rfl) (by kernel_rfl) (by kernel_rfl) (fun _ _ _ h => h) (Or.inl ⟨by kernel_rfl, ?_⟩) (by assumption) ?_
  rotate_left 1
  · (intro w hSw; obtain ⟨hk1, hk2⟩ := hSw; go_simp <;> with_reducible rfl)
  simp only [Act.put, List.getElem_toArray, List.getElem_cons_zero, List.getElem_cons_succ, List.setIfInBounds_toArray, List.set_cons_zero, List.set_cons_succ]
  refine wpAnyH_take (i := 5) (v := ?_) rfl (by kernel_rfl) (by kernel_rfl) (by kernel_rfl) (fun _ _ _ h => h) (Or.inl ⟨by kernel_rfl, ?_⟩) (by assumption) ?_
  rotate_left 1
  · (intro w hSw; obtain ⟨hk1, hk2⟩ := hSw; go_simp <;> with_reducible rfl)
  simp only [Act.put, List.getElem_toArray, List.getElem_cons_zero, List.getElem_cons_succ, List.setIfInBounds_toArray, List.set_cons_zero, List.set_cons_succ]
  refine wpAnyH_take (i := 6) (v := ?_) rfl (by kernel_rfl) (by kernel_rfl) (by kernel_rfl) (fun _ _ _ h => h) (Or.inl ⟨by kernel_rfl, ?_⟩) (by assumption) ?_
  rotate_left 1
  · (intro w hSw; obtain ⟨hk1, hk2⟩ := hSw; go_simp <;> with_reducible rfl)
  simp only [Act.put, List.getElem_toArray, List.getElem_cons_zero, List.getElem_cons_succ, List.setIfInBounds_toArray, List.set_cons_zero, List.set_cons_succ]
  refine wpAnyH_take (i := 7) (v := ?_) rfl (by kernel_rfl) (by kernel_rfl) (by kernel_rfl) (fun _ _ _ h => h) (Or.inl ⟨by kernel_rfl, ?_⟩) (by assumption) ?_
  rotate_left 1
  · (intro w hSw; obtain ⟨hk1, hk2⟩ := hSw; go_simp <;> with_reducible rfl)
  simp only [Act.put, List.getElem_toArray, List.getElem_cons_zero, List.getElem_cons_succ, List.setIfInBounds_toArray, List.set_cons_zero, List.set_cons_succ]
  refine nextH (i := 8) (by kernel_rfl) rfl (fun K hK => ?_)
  go_simp
  refine (HLA.out _).mono ?_
  rintro e_ w6 ⟨rfl, hb6⟩
  have hS' := kp (bel_tr hSd.2 hSd.2.size hb6)
  try dsimp only
  refine hK _ _ hS' ?_
  clear hK K hSd
  have hSd := hS'
  clear hS'
  refine wpAnyH_take (i := 9) (v := ?_) rfl (by kernel_rfl) (by kernel_rfl) (by kernel_rfl) (fun _ _ _ h => h) (Or.inl ⟨by kernel_rfl, ?_⟩) (by assumption) ?_
  rotate_left 1
  · (intro w hSw; obtain ⟨hk1, hk2⟩ := hSw; go_simp <;> with_reducible rfl)
  simp only [Act.put, List.getElem_toArray, List.getElem_cons_zero, List.getElem_cons_succ, List.setIfInBounds_toArray, List.set_cons_zero, List.set_cons_succ]
  refine wpAnyH_take (i := 10) (v := ?_) rfl (by kernel_rfl) (by kernel_rfl) (by kernel_rfl) (fun _ _ _ h => h) (Or.inl ⟨by kernel_rfl, ?_⟩) (by assumption) ?_
  rotate_left 1
  · (intro w hSw; obtain ⟨hk1, hk2⟩ := hSw; go_simp <;> with_reducible rfl)
  simp only [Act.put, List.getElem_toArray, List.getElem_cons_zero, List.getElem_cons_succ, List.setIfInBounds_toArray, List.set_cons_zero, List.set_cons_succ]
  refine wpAnyH_done (by kernel_rfl) ?_ _
  have hb5_6 : Below w5.heap.size w5 w6 := hSd.2
  have kS6 := kS5.bel hb5_6
  have kL6 := kL5.bel hb5_6
  have kF6 := kF5.bel hb5_6
  have kK6 := kK5.bel hb5_6
  have hr6 := hr5.bel hb5_6
  have hB6 : Below q w w6 := hB5.trans (hb5_6.mono z5)
  have z6 : q ≤ w6.heap.size := by have := hb5_6.size; omega
  have ykS_6 := kS6.lt
  have ykL_6 := kL6.lt
  have ykF_6 := kF6.lt
  have ykK_6 := kK6.lt
  clear s0 s1 t0 t1 p0 p1 o0 o1 o2 hB5 z5 hb5_6 kS5 kL5 kF5 kK5 hr5 ykS_5 ykL_5 ykF_5 ykK_5
  have s0 := kS6.cell 0; have s1 := kS6.cell 1; simp only [List.getElem?_cons_zero, List.getElem?_cons_succ] at s0 s1
  have t0 := kL6.cell 0; have t1 := kL6.cell 1; simp only [List.getElem?_cons_zero, List.getElem?_cons_succ] at t0 t1
  have p0 := kF6.cell 0; have p1 := kF6.cell 1; simp only [List.getElem?_cons_zero, List.getElem?_cons_succ] at p0 p1
  have o0 := kK6.cell 0; have o1 := kK6.cell 1; have o2 := kK6.cell 2; simp only [List.getElem?_cons_zero, List.getElem?_cons_succ] at o0 o1 o2
  clear hSd hb6
  go_upto_region 16 with fail
  go_upto_region 17 with (go_at_call 53; refine (HSE.out _ hr6).mono ?_; rintro e_ w7 ⟨rfl, hb7⟩)
  have hb6_7 : Below w6.heap.size w6 w7 := hb7
  have kS7 := kS6.bel hb6_7
  have kL7 := kL6.bel hb6_7
  have kF7 := kF6.bel hb6_7
  have kK7 := kK6.bel hb6_7
  have hr7 := hr6.bel hb6_7
  have hB7 : Below q w w7 := hB6.trans (hb6_7.mono z6)
  have z7 : q ≤ w7.heap.size := by have := hb6_7.size; omega
  have ykS_7 := kS7.lt
  have ykL_7 := kL7.lt
  have ykF_7 := kF7.lt
  have ykK_7 := kK7.lt
  clear s0 s1 t0 t1 p0 p1 o0 o1 o2 hB6 z6 hb6_7 kS6 kL6 kF6 kK6 hr6 ykS_6 ykL_6 ykF_6 ykK_6
  have s0 := kS7.cell 0; have s1 := kS7.cell 1; simp only [List.getElem?_cons_zero, List.getElem?_cons_succ] at s0 s1
  have t0 := kL7.cell 0; have t1 := kL7.cell 1; simp only [List.getElem?_cons_zero, List.getElem?_cons_succ] at t0 t1
  have p0 := kF7.cell 0; have p1 := kF7.cell 1; simp only [List.getElem?_cons_zero, List.getElem?_cons_succ] at p0 p1
  have o0 := kK7.cell 0; have o1 := kK7.cell 1; have o2 := kK7.cell 2; simp only [List.getElem?_cons_zero, List.getElem?_cons_succ] at o0 o1 o2
  clear hb7
  go_upto_region 24 with (first
    | (go_at_call 24; refine (HFE.out _).mono ?_; rintro e_ w_ ⟨rfl, rfl⟩)
    | (go_at_call 54; refine (HRS.out _ hr7).mono ?_; rintro e_ w8 ⟨rfl, hb8⟩))
  obtain ⟨b3, hb3e⟩ : ∃ b3, w8.heap.size = b3 := ⟨_, rfl⟩
  obtain ⟨w9, hw9⟩ : ∃ w9, w8.alloc (.cells #[.int .i64 0, .int .i64 0, .int .i64 0] 87) = w9 := ⟨_, rfl⟩
  have b89 : Below w8.heap.size w8 w9 := by rw [← hw9]; exact alloc_bel _ _
  have kM9 : Blk w9 b3 87 [.int .i64 0, .int .i64 0, .int .i64 0] := by rw [← hw9, ← hb3e]; exact Blk.new w8 _ [_, _, _]
  rw [hw9]
  try simp only [hb3e]
  clear hw9 hb3e
  have hb79 := bel_tr hb8 hb8.size b89
  have hb7_9 : Below w7.heap.size w7 w9 := hb79
  have kS9 := kS7.bel hb7_9
  have kL9 := kL7.bel hb7_9
  have kF9 := kF7.bel hb7_9
  have kK9 := kK7.bel hb7_9
  have hr9 := hr7.bel hb7_9
  have hB9 : Below q w w9 := hB7.trans (hb7_9.mono z7)
  have z9 : q ≤ w9.heap.size := by have := hb7_9.size; omega
  have ykS_9 := kS9.lt
  have ykL_9 := kL9.lt
  have ykF_9 := kF9.lt
  have ykK_9 := kK9.lt
  clear s0 s1 t0 t1 p0 p1 o0 o1 o2 hB7 z7 hb7_9 kS7 kL7 kF7 kK7 hr7 ykS_7 ykL_7 ykF_7 ykK_7
  have s0 := kS9.cell 0; have s1 := kS9.cell 1; simp only [List.getElem?_cons_zero, List.getElem?_cons_succ] at s0 s1
  have t0 := kL9.cell 0; have t1 := kL9.cell 1; simp only [List.getElem?_cons_zero, List.getElem?_cons_succ] at t0 t1
  have p0 := kF9.cell 0; have p1 := kF9.cell 1; simp only [List.getElem?_cons_zero, List.getElem?_cons_succ] at p0 p1
  have o0 := kK9.cell 0; have o1 := kK9.cell 1; have o2 := kK9.cell 2; simp only [List.getElem?_cons_zero, List.getElem?_cons_succ] at o0 o1 o2
  clear hb79 hb8 b89
  have ykM := kM9.lt
  have m0 := kM9.cell 0; have m1 := kM9.cell 1; have m2 := kM9.cell 2; simp only [List.getElem?_cons_zero, List.getElem?_cons_succ] at m0 m1 m2
  go_wp2
  go_ret
  exact ⟨rfl, by first | exact hB9 | (rw [hq]; exact hB9)⟩
end Go.Proofs.Ytkcjiejdjdcbeaa
