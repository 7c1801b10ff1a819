/- The law CodeWhateverLost, whole: what the program and the reference answer, put together. Condition: the laid table. -/
import Derived.Test.YthkmeaibppkhmaaDoorL13b
import Derived.Test.YthkmeaibppkhmaaDoorL12b
namespace Go.Proofs.YthkmeaibppkhmaaDoor
open Go.RowKit
set_option maxRecDepth 100000

theorem lost_big (gain limit : Int) (A G B D : Option Addr) (cA c cB cD : Nat) (samples wave were : List (Int × Int)) (gaps : List Int) (b t : Int) (w : World) (hT : Tab w) (hs : Rd w A (gs samples)) (hr : Rd w G (ints gaps)) (hv : Rd w B (gs wave)) (hf : fewB samples.length gaps.length = false) :
    Calls Tryd.prog 13 #[.agg #[.int .i64 gain, .int .i64 limit, .slice A samples.length cA, .slice G gaps.length c], .agg #[.slice B wave.length cB, .slice D were.length cD], .agg #[.int .i64 b, .int .i64 t]] w fun r w' => r = .returned (.bool true) ∧ Below w.heap.size w w' := by
  have HF := hide (fun W => fewFrame_c gain limit A G samples.length gaps.length cA c W)
  rw [hf] at HF
  clear hf
  go_enter Tryd.func13, Tryd.ntmps13
  go_upto_region 1 with fail
  obtain ⟨W, hW⟩ : ∃ W, ((w.alloc (.cells #[.int .i64 gain, .int .i64 limit, .slice A samples.length cA, .slice G gaps.length c] 81)).alloc (.cells #[.slice B wave.length cB, .slice D were.length cD] 119)).alloc (.cells #[.int .i64 b, .int .i64 t] 105) = W := ⟨_, rfl⟩
  have hwW : Below w.heap.size w W := by rw [← hW]; exact ((alloc_bel _ _).alloc (by simp) _).alloc (by simp; omega) _
  have hX : Blk W w.heap.size 81 [.int .i64 gain, .int .i64 limit, .slice A samples.length cA, .slice G gaps.length c] := by rw [← hW]; exact ((Blk.new w _ [_, _, _, _]).bel (alloc_bel _ _)).bel (alloc_bel _ _)
  have hY : Blk W (w.heap.size + 1) 119 [.slice B wave.length cB, .slice D were.length cD] := by rw [← hW]; exact (Blk.new2 w 81 119 [.int .i64 gain, .int .i64 limit, .slice A samples.length cA, .slice G gaps.length c] [.slice B wave.length cB, .slice D were.length cD]).bel (alloc_bel _ _)
  have hR : Blk W (w.heap.size + 1 + 1) 105 [.int .i64 b, .int .i64 t] := by rw [← hW]; exact Blk.new3 w 81 119 105 [.int .i64 gain, .int .i64 limit, .slice A samples.length cA, .slice G gaps.length c] [.slice B wave.length cB, .slice D were.length cD] [.int .i64 b, .int .i64 t]
  rw [hW]
  clear hW
  obtain ⟨p, hp⟩ : ∃ p, w.heap.size + 1 = p := ⟨_, rfl⟩
  rw [hp] at hY hR ⊢
  obtain ⟨q, hq⟩ : ∃ q, p + 1 = q := ⟨_, rfl⟩
  rw [hq] at hR ⊢
  have hTW := hT.bel hwW
  have hsW := hs.bel hwW
  have hrW := hr.bel hwW
  have hvW := hv.bel hwW
  have hxl := hX.lt
  have hyl := hY.lt
  have hrl := hR.lt
  have c0 := hX.cell 0; have c1 := hX.cell 1; have c2 := hX.cell 2; have c3 := hX.cell 3; simp only [List.getElem?_cons_zero, List.getElem?_cons_succ] at c0 c1 c2 c3
  have y0 := hY.cell 0; have y1 := hY.cell 1; simp only [List.getElem?_cons_zero, List.getElem?_cons_succ] at y0 y1
  have r0 := hR.cell 0; have r1 := hR.cell 1; simp only [List.getElem?_cons_zero, List.getElem?_cons_succ] at r0 r1
  clear hX hY hR hp hq hT hs hr hv
  go_wp2_with (first
    | (go_at_call 15; refine (awake_c _ hTW).mono ?_; rintro e w1 ⟨rfl, hb1⟩; have k1 := (kp hb1).1)
    | (go_at_call 54; refine (HF.out _).mono ?_; rintro e w2 ⟨rfl, hb2⟩; have hB2 := bel_tr hb1 hb1.size hb2; have k2 := (kp hB2).1)
    )
  go_ret
  exact ⟨rfl, bel_tr hwW hwW.size hB2⟩
theorem lost_long (gain limit : Int) (A G B D : Option Addr) (cA c cB cD : Nat) (samples wave were : List (Int × Int)) (gaps : List Int) (b t : Int) (w : World) (hT : Tab w) (hs : Rd w A (gs samples)) (hr : Rd w G (ints gaps)) (hv : Rd w B (gs wave)) (hf : fewB samples.length gaps.length = true) (hl : 32 < wave.length) :
    Calls Tryd.prog 13 #[.agg #[.int .i64 gain, .int .i64 limit, .slice A samples.length cA, .slice G gaps.length c], .agg #[.slice B wave.length cB, .slice D were.length cD], .agg #[.int .i64 b, .int .i64 t]] w fun r w' => r = .returned (.bool true) ∧ Below w.heap.size w w' := by
  have hq : samples.length ≤ 70 ∧ gaps.length ≤ 70 := by simpa [fewB] using hf
  have HF := hide (fun W => fewFrame_c gain limit A G samples.length gaps.length cA c W)
  rw [hf] at HF
  have HFE := hide (fun W h1 h2 => frameErr_c gain limit A G cA c samples gaps W h1 h2 (by omega) (by omega))
  have e1 : decide ((32 : Int) < (wave.length : Int)) = true := by simp; omega
  clear hf hl
  generalize hFE : (frameE gain limit samples gaps).2 = FE at HFE
  clear hFE
  by_cases h1 : FE = 0
  case neg =>
    have e2 : (FE != 0) = true := by simpa using h1
    clear h1
    go_enter Tryd.func13, Tryd.ntmps13
    go_upto_region 1 with fail
    obtain ⟨W, hW⟩ : ∃ W, ((w.alloc (.cells #[.int .i64 gain, .int .i64 limit, .slice A samples.length cA, .slice G gaps.length c] 81)).alloc (.cells #[.slice B wave.length cB, .slice D were.length cD] 119)).alloc (.cells #[.int .i64 b, .int .i64 t] 105) = W := ⟨_, rfl⟩
    have hwW : Below w.heap.size w W := by rw [← hW]; exact ((alloc_bel _ _).alloc (by simp) _).alloc (by simp; omega) _
    have hX : Blk W w.heap.size 81 [.int .i64 gain, .int .i64 limit, .slice A samples.length cA, .slice G gaps.length c] := by rw [← hW]; exact ((Blk.new w _ [_, _, _, _]).bel (alloc_bel _ _)).bel (alloc_bel _ _)
    have hY : Blk W (w.heap.size + 1) 119 [.slice B wave.length cB, .slice D were.length cD] := by rw [← hW]; exact (Blk.new2 w 81 119 [.int .i64 gain, .int .i64 limit, .slice A samples.length cA, .slice G gaps.length c] [.slice B wave.length cB, .slice D were.length cD]).bel (alloc_bel _ _)
    have hR : Blk W (w.heap.size + 1 + 1) 105 [.int .i64 b, .int .i64 t] := by rw [← hW]; exact Blk.new3 w 81 119 105 [.int .i64 gain, .int .i64 limit, .slice A samples.length cA, .slice G gaps.length c] [.slice B wave.length cB, .slice D were.length cD] [.int .i64 b, .int .i64 t]
    rw [hW]
    clear hW
    obtain ⟨p, hp⟩ : ∃ p, w.heap.size + 1 = p := ⟨_, rfl⟩
    rw [hp] at hY hR ⊢
    obtain ⟨q, hq⟩ : ∃ q, p + 1 = q := ⟨_, rfl⟩
    rw [hq] at hR ⊢
    have hTW := hT.bel hwW
    have hsW := hs.bel hwW
    have hrW := hr.bel hwW
    have hvW := hv.bel hwW
    have hxl := hX.lt
    have hyl := hY.lt
    have hrl := hR.lt
    have c0 := hX.cell 0; have c1 := hX.cell 1; have c2 := hX.cell 2; have c3 := hX.cell 3; simp only [List.getElem?_cons_zero, List.getElem?_cons_succ] at c0 c1 c2 c3
    have y0 := hY.cell 0; have y1 := hY.cell 1; simp only [List.getElem?_cons_zero, List.getElem?_cons_succ] at y0 y1
    have r0 := hR.cell 0; have r1 := hR.cell 1; simp only [List.getElem?_cons_zero, List.getElem?_cons_succ] at r0 r1
    clear hX hY hR hp hq hT hs hr hv
    go_wp2_with (first
    | (go_at_call 15; refine (awake_c _ hTW).mono ?_; rintro e w1 ⟨rfl, hb1⟩; have k1 := (kp hb1).1)
    | (go_at_call 54; refine (HF.out _).mono ?_; rintro e w2 ⟨rfl, hb2⟩; have hB2 := bel_tr hb1 hb1.size hb2; have k2 := (kp hB2).1)
      | (go_at_call 62; refine (HFE.out _ (hsW.bel hB2) (hrW.bel hB2)).mono ?_; rintro e w3 ⟨rfl, hb3⟩; have hB3 := bel_tr hB2 hB2.size hb3; have k3 := (kp hB3).1)
      )
    go_ret
    exact ⟨rfl, bel_tr hwW hwW.size hB3⟩
  subst h1
  go_enter Tryd.func13, Tryd.ntmps13
  go_upto_region 1 with fail
  obtain ⟨W, hW⟩ : ∃ W, ((w.alloc (.cells #[.int .i64 gain, .int .i64 limit, .slice A samples.length cA, .slice G gaps.length c] 81)).alloc (.cells #[.slice B wave.length cB, .slice D were.length cD] 119)).alloc (.cells #[.int .i64 b, .int .i64 t] 105) = W := ⟨_, rfl⟩
  have hwW : Below w.heap.size w W := by rw [← hW]; exact ((alloc_bel _ _).alloc (by simp) _).alloc (by simp; omega) _
  have hX : Blk W w.heap.size 81 [.int .i64 gain, .int .i64 limit, .slice A samples.length cA, .slice G gaps.length c] := by rw [← hW]; exact ((Blk.new w _ [_, _, _, _]).bel (alloc_bel _ _)).bel (alloc_bel _ _)
  have hY : Blk W (w.heap.size + 1) 119 [.slice B wave.length cB, .slice D were.length cD] := by rw [← hW]; exact (Blk.new2 w 81 119 [.int .i64 gain, .int .i64 limit, .slice A samples.length cA, .slice G gaps.length c] [.slice B wave.length cB, .slice D were.length cD]).bel (alloc_bel _ _)
  have hR : Blk W (w.heap.size + 1 + 1) 105 [.int .i64 b, .int .i64 t] := by rw [← hW]; exact Blk.new3 w 81 119 105 [.int .i64 gain, .int .i64 limit, .slice A samples.length cA, .slice G gaps.length c] [.slice B wave.length cB, .slice D were.length cD] [.int .i64 b, .int .i64 t]
  rw [hW]
  clear hW
  obtain ⟨p, hp⟩ : ∃ p, w.heap.size + 1 = p := ⟨_, rfl⟩
  rw [hp] at hY hR ⊢
  obtain ⟨q, hq⟩ : ∃ q, p + 1 = q := ⟨_, rfl⟩
  rw [hq] at hR ⊢
  have hTW := hT.bel hwW
  have hsW := hs.bel hwW
  have hrW := hr.bel hwW
  have hvW := hv.bel hwW
  have hxl := hX.lt
  have hyl := hY.lt
  have hrl := hR.lt
  have c0 := hX.cell 0; have c1 := hX.cell 1; have c2 := hX.cell 2; have c3 := hX.cell 3; simp only [List.getElem?_cons_zero, List.getElem?_cons_succ] at c0 c1 c2 c3
  have y0 := hY.cell 0; have y1 := hY.cell 1; simp only [List.getElem?_cons_zero, List.getElem?_cons_succ] at y0 y1
  have r0 := hR.cell 0; have r1 := hR.cell 1; simp only [List.getElem?_cons_zero, List.getElem?_cons_succ] at r0 r1
  clear hX hY hR hp hq hT hs hr hv
  go_wp2_with (first
    | (go_at_call 15; refine (awake_c _ hTW).mono ?_; rintro e w1 ⟨rfl, hb1⟩; have k1 := (kp hb1).1)
    | (go_at_call 54; refine (HF.out _).mono ?_; rintro e w2 ⟨rfl, hb2⟩; have hB2 := bel_tr hb1 hb1.size hb2; have k2 := (kp hB2).1)
    | (go_at_call 62; refine (HFE.out _ (hsW.bel hB2) (hrW.bel hB2)).mono ?_; rintro e w3 ⟨rfl, hb3⟩; have hB3 := bel_tr hB2 hB2.size hb3; have k3 := (kp hB3).1)
    )
  go_ret
  exact ⟨rfl, bel_tr hwW hwW.size hB3⟩

theorem lost_c (gain limit : Int) (A G B D : Option Addr) (cA c cB cD : Nat) (samples wave were : List (Int × Int)) (gaps : List Int) (b t : Int) (w : World) (hT : Tab w) (hs : Rd w A (gs samples)) (hr : Rd w G (ints gaps)) (hv : Rd w B (gs wave)) (hd : Rd w D (gs were)) :
    Calls Tryd.prog 13 #[.agg #[.int .i64 gain, .int .i64 limit, .slice A samples.length cA, .slice G gaps.length c], .agg #[.slice B wave.length cB, .slice D were.length cD], .agg #[.int .i64 b, .int .i64 t]] w fun r w' => r = .returned (.bool true) ∧ Below w.heap.size w w' := by
  cases hf : fewB samples.length gaps.length
  · exact lost_big gain limit A G B D cA c cB cD samples wave were gaps b t w hT hs hr hv hf
  by_cases hl : 32 < wave.length
  · exact lost_long gain limit A G B D cA c cB cD samples wave were gaps b t w hT hs hr hv hf hl
  have hq : samples.length ≤ 70 ∧ gaps.length ≤ 70 := by simpa [fewB] using hf
  have HF := hide (fun W => fewFrame_c gain limit A G samples.length gaps.length cA c W)
  rw [hf] at HF
  have HFE := hide (fun W h1 h2 => frameErr_c gain limit A G cA c samples gaps W h1 h2 (by omega) (by omega))
  have HWE := hide (fun W h1 => refWaveErr_c B cB wave W h1 (by omega))
  have HRE := hide (fun W => refRuleErr_c b t W)
  by_cases hor : (frameE gain limit samples gaps).2 ≠ 0 ∨ waveErr wave ≠ 0 ∨ samples.length < wave.length ∨ were.length ≠ samples.length ∨ ruE b t ≠ 0 ∨ 1999990 < b
  · refine lost_true gain limit A G B D cA c cB cD samples wave were gaps b t w hT hs hr hv true _ _ _ HF HFE HWE HRE ?_
    rcases hor with h | h | h | h | h | h
    · exact .inr (.inl h)
    · exact .inr (.inr (.inr (.inl h)))
    · exact .inr (.inr (.inr (.inr (.inl h))))
    · exact .inr (.inr (.inr (.inr (.inr (.inl h)))))
    · exact .inr (.inr (.inr (.inr (.inr (.inr (.inl h))))))
    · exact .inr (.inr (.inr (.inr (.inr (.inr (.inr h))))))
  · simp only [not_or, Classical.not_not] at hor
    obtain ⟨f0, w0, g2, g3, r0, g4⟩ := hor
    obtain ⟨hh, hsamp, _⟩ := frameE_zero f0
    obtain ⟨_, _, l1, l2, n1, n2⟩ := headE_zero hh
    obtain ⟨w1, w2, hpow⟩ := waveErr_zero w0
    obtain ⟨⟨b1, b2⟩, t1, t2⟩ := ruE_zero r0
    have hsm : ∀ g ∈ samples, gle 2000000 g := fun g hg => by have := hsamp g hg; simp only [gle]; omega
    have hwv : ∀ g ∈ wave, ∃ t, t < 4 ∧ g = turnG t := fun g hg => isPow_turn (hpow g hg)
    have hE : compE gain limit samples gaps wave = 0 := by
      unfold compE firstE; rw [if_pos f0]; unfold firstE; rw [if_pos w0, decide_eq_false g2]; rfl
    rw [f0] at HFE
    rw [w0] at HWE
    rw [r0] at HRE
    obtain ⟨N, hN⟩ : ∃ N, samples.length - wave.length + 1 = N := ⟨_, rfl⟩
    have hlV := compV_len (usableL limit samples gaps) samples wave N
    have hlM := compMs_len (usableL limit samples gaps) wave N
    have hLE := line_of (us := usableL limit samples gaps) (n := N) hsm hwv w2 (by omega) (by omega) (by omega)
    have lag0 : ∀ k, k < N → lagE (compV (usableL limit samples gaps) samples wave N).length (k : Int) = 0 := fun k hk => by
      rw [hlV]; unfold lagE; rw [outB_false.2 (by omega)]; rfl
    have bg0 : ∀ x, 0 ≤ x → x ≤ 2000000 → bgE x = 0 := fun x h1 h2 => by unfold bgE; rw [outB_false.2 ⟨h1, h2⟩]; rfl
    have lv0 : ∀ k, k < N → ∀ x, 0 ≤ x → x ≤ 2000000 → lvE (compV (usableL limit samples gaps) samples wave N) (compMs (usableL limit samples gaps) wave N) k x = 0 := fun k hk x h1 h2 => by
      unfold lvE; rw [firstE_3, if_pos hLE, if_pos (lag0 k hk), bg0 x h1 h2]
    have an0 : ∀ k, k < N → anE (compV (usableL limit samples gaps) samples wave N) (compMs (usableL limit samples gaps) wave N) k b t = 0 := fun k hk => by
      unfold anE; rw [firstE_3, if_pos hLE, if_pos (lag0 k hk), r0]
    rw [g3]
    refine lost_ok gain limit A G B D cA c cB cD samples wave were gaps b t w hT hs hr hv hd (usableL limit samples gaps) (compV (usableL limit samples gaps) samples wave N) (compMs (usableL limit samples gaps) wave N) N
      (fun k => lvLo (compV (usableL limit samples gaps) samples wave N) (compMs (usableL limit samples gaps) wave N) k b) (fun k => lvHi (compV (usableL limit samples gaps) samples wave N) (compMs (usableL limit samples gaps) wave N) k b)
      (fun k => lvLo (compV (usableL limit samples gaps) samples wave N) (compMs (usableL limit samples gaps) wave N) k (b + 10)) (fun k => lvHi (compV (usableL limit samples gaps) samples wave N) (compMs (usableL limit samples gaps) wave N) k (b + 10))
      (fun k => ansN (compV (usableL limit samples gaps) samples wave N) (compMs (usableL limit samples gaps) wave N) k b t)
      HF HFE HWE HRE (by omega) (by omega) g3 (by omega) b1 ⟨t1, t2⟩ (by omega) w1 hN.symm hsm hwv ?_ ?_ ?_ ?_ ?_ ?_ ?_ ?_ ?_ ?_ ?_
    · exact fun W h1 h2 => copyFrame_c gain limit A G cA c samples gaps W h1 h2 (by omega) (by omega)
    · exact fun W h1 => copyGausses_c wave B cB W h1 (by omega)
    · intro A' a' G' d' B' b' W h0 h1 h2 h3
      have h := compressed_ok gain limit A' G' B' a' d' b' samples wave gaps W h0 h1 h2 h3 (by omega) (by omega) (by omega) hE
      rw [hN] at h
      exact h
    · intro V M W h1 h2
      have h := refLineErr_c V M N N _ _ W h1 h2 (by rw [hlV]; omega)
      rw [hlV, hlM, hLE] at h
      exact h
    · exact fun W h1 => copyGaussesO_c samples A cA W h1 (by omega) (by omega)
    · intro i hi W h1 h2
      rw [usableL_getD limit samples gaps i hi]
      exact refUsable_c gain limit A G cA c samples gaps i W h1 h2 (by omega) hi (fun g hg => by have := hsamp g hg; omega)
    · intro V M W h1 h2
      have h := copyLine_c V M N N _ _ W h1 h2 (by rw [hlV]; omega) (by rw [hlM]; omega)
      rw [hlV, hlM] at h
      exact h
    · intro k hk V' M' e f W h1 h2
      have h := levelAt_ok V' M' e f _ _ k b W h1 h2 (by rw [hlV]; omega) (lv0 k hk b b1 b2)
      rw [hlV, hlM] at h
      exact h
    · intro k hk V' M' e f W h1 h2
      have h := levelAt_ok V' M' e f _ _ k (b + 10) W h1 h2 (by rw [hlV]; omega) (lv0 k hk (b + 10) (by omega) (by omega))
      rw [hlV, hlM] at h
      exact h
    · intro k hk V' M' e f W h1 h2
      have h := answerAt_ok V' M' e f _ _ k b t W h1 h2 (by rw [hlV]; omega) (an0 k hk)
      rw [hlV, hlM] at h
      exact h
    · exact fun all hA k hk => lost_at hA hwv hk (by omega) b1
end Go.Proofs.YthkmeaibppkhmaaDoor
