/- Contracts: a frame that is not to be cleaned, and both ways together. -/
import Derived.Test.YtnigmdkhecblnaaDoorQ7
set_option linter.unusedSimpArgs false
set_option linter.unusedVariables false
namespace Go.Proofs.YtnigmdkhecblnaaDoor
open Go.RowKit
set_option maxRecDepth 100000


set_option maxHeartbeats 4000000 in
theorem cleaned_bad1 (gain limit : Int) (A G B : Option Addr) (cA c cB : Nat) (samples : List (Int × Int)) (gaps lines : List Int) (w : World) (hs : Rd w A (gs samples)) (hr : Rd w G (ints gaps)) (hx : Rd w B (ints lines)) (hn : samples.length ≤ 1000) (hg : gaps.length ≤ 1000)
    (hl : lines.length ≤ 1000) (hv : (frameE gain limit samples gaps).2 ≠ 0) :
    Calls Tryd.prog 8 #[.agg #[.int .i64 gain, .int .i64 limit, .slice A samples.length cA, .slice G gaps.length c], .slice B lines.length cB] w fun r w' =>
      r = .returned (.tuple #[.agg #[.int .i64 0, .int .i64 0, .slice none 0 0, .slice none 0 0], .int .i64 (cleanE gain limit samples gaps lines)]) ∧ Below w.heap.size w w' := by
  have HNE : Hid (cleanE gain limit samples gaps lines ≠ 0) := by show _ ≠ _; unfold cleanE; rw [if_pos hv]; exact hv
  have HCE : Hid (∀ b c d, firstE [(frameE gain limit samples gaps).2, b, c, d] = cleanE gain limit samples gaps lines) := fun b c d => clean_frame lines hv b c d
  have hX := Blk.new w 25 [.int .i64 gain, .int .i64 limit, .slice A samples.length cA, .slice G gaps.length c]
  have hB1 : Below w.heap.size w (((w.alloc (.cells #[.int .i64 gain, .int .i64 limit, .slice A samples.length cA, .slice G gaps.length c] 25)).alloc (.cells #[.slice B lines.length cB] 23)).alloc (.cells #[.int .i64 0, .int .i64 0, .slice none 0 0, .slice none 0 0] 25)) := ((alloc_bel _ _).alloc (by simp) _).alloc (by simp; omega) _
  have HCk := hide ((checked_c gain limit A G cA c samples gaps _ (hs.bel hB1) (hr.bel hB1) hn hg).mono (R' := fun r w' => r = .returned (.tuple #[.agg #[.int .i64 0, .int .i64 0, .slice none 0 0, .slice none 0 0, .slice none 0 0], .int .i64 (frameE gain limit samples gaps).2]) ∧ Below (((w.alloc (.cells #[.int .i64 gain, .int .i64 limit, .slice A samples.length cA, .slice G gaps.length c] 25)).alloc (.cells #[.slice B lines.length cB] 23)).alloc (.cells #[.int .i64 0, .int .i64 0, .slice none 0 0, .slice none 0 0] 25)).heap.size (((w.alloc (.cells #[.int .i64 gain, .int .i64 limit, .slice A samples.length cA, .slice G gaps.length c] 25)).alloc (.cells #[.slice B lines.length cB] 23)).alloc (.cells #[.int .i64 0, .int .i64 0, .slice none 0 0, .slice none 0 0] 25)) w') (fun r w' h => by
    obtain ⟨h, hb⟩ := h
    refine ⟨?_, hb⟩
    rcases h with ⟨h1, h⟩ | ⟨h1, h⟩
    · first | exact absurd hv h1 | exact h
    · first | exact absurd h1 hv | exact h))
  clear hs hr
  go_enter Tryd.func8, Tryd.ntmps8
  go_upto_region 2 with (first | (go_at_call 38; refine HCk.out.mono ?_; rintro e w1 ⟨rfl, hb1⟩))
  have hL1 : Blk w1 (w.heap.size + 1) 23 [.slice B lines.length cB] := ((Blk.two w 25 23 [.int .i64 gain, .int .i64 limit, .slice A samples.length cA, .slice G gaps.length c] [.slice B lines.length cB]).bel (alloc_bel _ _)).bel hb1
  have hY1 : Blk w1 (w.heap.size + 1 + 1) 25 [.int .i64 0, .int .i64 0, .slice none 0 0, .slice none 0 0] := by
    have := (Blk.two (w.alloc (.cells #[.int .i64 gain, .int .i64 limit, .slice A samples.length cA, .slice G gaps.length c] 25)) 23 25 [.slice B lines.length cB] [.int .i64 0, .int .i64 0, .slice none 0 0, .slice none 0 0]).bel hb1
    rwa [World.size_alloc] at this
  have hw1 : Below w.heap.size w w1 := tr hB1 hb1 (by simp; omega)
  have hwp := hY1.lt
  have hx1 := hx.bel hw1
  clear hX hB1 HCk hb1 hx
  have hC := Blk.new w1 81 [.int .i64 0, .int .i64 0, .slice none 0 0, .slice none 0 0, .slice none 0 0]
  have hA := alloc_bel w1 (.cells #[.int .i64 0, .int .i64 0, .slice none 0 0, .slice none 0 0, .slice none 0 0] 81)
  replace hL1 := hL1.bel hA
  replace hY1 := hY1.bel hA
  replace hx1 := hx1.bel hA
  replace hw1 := tr hw1 hA hw1.size
  obtain ⟨p, hp⟩ : ∃ p, w1.heap.size = p := ⟨_, rfl⟩
  obtain ⟨W, hW⟩ : ∃ W, w1.alloc (.cells #[.int .i64 0, .int .i64 0, .slice none 0 0, .slice none 0 0, .slice none 0 0] 81) = W := ⟨_, rfl⟩
  have hpW : p + 1 = W.heap.size := by rw [← hW, ← hp]; simp
  rw [hW] at hL1 hY1 hx1 hw1 hC ⊢
  rw [hp] at hwp hC ⊢
  have hpl : p < W.heap.size := by omega
  have hpl2 : W.heap.size ≤ p + 1 := by omega
  have hll : w.heap.size + 1 < W.heap.size := by omega
  clear hW hp hA hpW
  have HXB := hide hx1
  have HY := hide hY1
  clear hx1 hY1
  have l0 := hL1.cell 0
  have c0 := hC.cell 0
  have c1 := hC.cell 1
  simp only [List.getElem?_cons_zero, List.getElem?_cons_succ] at l0 c0 c1
  have HLE := hide (fun W h => linesError_c lines B cB W h hl)
  go_cut [7] from 20 to 36 (fun t7 wx => t7 = .int .i64 (cleanE gain limit samples gaps lines) ∧ Below W.heap.size W wx)
  case first =>
    go_region_held3 (fun w' => (∀ b o, b < W.heap.size → w'.cell? ⟨b, o, none⟩ = W.cell? ⟨b, o, none⟩) ∧ Below W.heap.size W w')
      ((refine kp ?_; (repeat' (first | with_reducible exact Below.refl _ _ | with_reducible exact HB3.out | with_reducible refine Below.drew ?_ | with_reducible refine bel_alloc ?_ ?_ _ | with_reducible refine Below.setCell ?_ ?_ _)); all_goals (first | omega | (simp <;> omega))))
      (first
        | (go_at_call 40; refine (HLE.out _ (HXB.out.bel (by (repeat' (first | with_reducible exact Below.refl _ _ | with_reducible refine Below.drew ?_ | with_reducible refine bel_alloc ?_ ?_ _)); all_goals (first | omega | (simp <;> omega))))).mono ?_; rintro e w3 ⟨rfl, hb3⟩; have HB3 : Hid (Below W.heap.size W w3) := (by refine bel_tr ?_ ?_ hb3; (repeat' (first | with_reducible exact Below.refl _ _ | with_reducible refine Below.drew ?_ | with_reducible refine bel_alloc ?_ ?_ _)); all_goals (first | omega | (simp <;> omega))); have s3 := HB3.out.size)
        | (go_at_call 41; refine (errorIf_c _ _ _).mono ?_; rintro e_ w_ ⟨rfl, rfl⟩) | (go_at_call 60; refine (outside_c _ _ _ _).mono ?_; rintro e_ w_ ⟨rfl, rfl⟩)
        | (go_at_call 39; refine (firstError_4 _ _ _ _ _).mono ?_; rintro e_ w_ ⟨rfl, rfl⟩))
    all_goals
      go_wp2
      go_meet
      refine ⟨by rw [HCE.out], ?_⟩
      (repeat' (first | with_reducible exact Below.refl _ _ | with_reducible exact HB3.out | with_reducible refine Below.drew ?_ | with_reducible refine bel_alloc ?_ ?_ _)); all_goals (first | omega | (simp <;> omega))
  obtain ⟨rfl, hbc⟩ := hcut
  obtain ⟨V, hV⟩ : ∃ V : World, wc = V := ⟨_, rfl⟩
  rw [hV] at hbc ⊢
  clear hV c0 c1 l0 HCE
  have e1 : (cleanE gain limit samples gaps lines != 0) = true := by simpa using HNE.out
  have hYV := HY.out.bel hbc
  have hbV := tr hw1 hbc hw1.size
  have hlV := hYV.lt
  have y0 := hYV.cell 0
  have y1 := hYV.cell 1
  have y2 := hYV.cell 2
  have y3 := hYV.cell 3
  simp only [List.getElem?_cons_zero, List.getElem?_cons_succ] at y0 y1 y2 y3
  have f0 := hYV.frozen 0
  have f1 := hYV.frozen 1
  have f2 := hYV.frozen 2
  have f3 := hYV.frozen 3
  have hE := hYV.set4 (.int .i64 0) (.int .i64 0) (.slice none 0 0) (.slice none 0 0)
  have hqw : w.heap.size ≤ w.heap.size + 1 + 1 := by omega
  have hBE := (((hbV.setCell (p := ⟨w.heap.size + 1 + 1, 0, none⟩) hqw (.int .i64 0)).setCell (p := ⟨w.heap.size + 1 + 1, 1, none⟩) hqw (.int .i64 0)).setCell (p := ⟨w.heap.size + 1 + 1, 2, none⟩) hqw (.slice none 0 0)).setCell (p := ⟨w.heap.size + 1 + 1, 3, none⟩) hqw (.slice none 0 0)
  obtain ⟨ce, HcE⟩ : ∃ ce, Hid (cleanE gain limit samples gaps lines = ce) := ⟨_, rfl⟩
  rw [HcE.out] at e1 ⊢
  clear hYV HY
  go_wp2
  generalize (((V.setCell ⟨w.heap.size + 1 + 1, 0, none⟩ (.int .i64 0)).setCell ⟨w.heap.size + 1 + 1, 1, none⟩ (.int .i64 0)).setCell ⟨w.heap.size + 1 + 1, 2, none⟩ (.slice none 0 0)).setCell ⟨w.heap.size + 1 + 1, 3, none⟩ (.slice none 0 0) = WE at hE hBE ⊢
  have t0 := hE.cell 0
  have t1 := hE.cell 1
  have t2 := hE.cell 2
  have t3 := hE.cell 3
  simp only [List.getElem?_cons_zero, List.getElem?_cons_succ] at t0 t1 t2 t3
  refine bodyPost_ret (by simp [results, Tryd.results8, go_sem, t0, t1, t2, t3]; try rfl) rfl ?_
  exact ⟨by rw [HcE.out], hBE⟩

set_option maxHeartbeats 4000000 in
theorem cleaned_bad2 (gain limit : Int) (A G B : Option Addr) (cA c cB : Nat) (samples : List (Int × Int)) (gaps lines : List Int) (w : World) (hs : Rd w A (gs samples)) (hr : Rd w G (ints gaps)) (hx : Rd w B (ints lines)) (hn : samples.length ≤ 1000) (hg : gaps.length ≤ 1000)
    (hl : lines.length ≤ 1000) (hv : (frameE gain limit samples gaps).2 = 0) (hz : remE gain limit lines ≠ 0) :
    Calls Tryd.prog 8 #[.agg #[.int .i64 gain, .int .i64 limit, .slice A samples.length cA, .slice G gaps.length c], .slice B lines.length cB] w fun r w' =>
      r = .returned (.tuple #[.agg #[.int .i64 0, .int .i64 0, .slice none 0 0, .slice none 0 0], .int .i64 (cleanE gain limit samples gaps lines)]) ∧ Below w.heap.size w w' := by
  obtain ⟨hh, _, _⟩ := frameE_zero hv
  obtain ⟨q1, q2, l1, l2, n1, n2⟩ := headE_zero hh
  clear hh
  have HNE : Hid (cleanE gain limit samples gaps lines ≠ 0) := by show _ ≠ _; unfold cleanE; rw [if_neg (by simp [hv])]; exact hz
  have HCE : Hid (firstE [0, linesE lines, errIf (decide (2000000 < 20 * limit)) 8, errIf (decide (gain - 2 < -8)) 22] = cleanE gain limit samples gaps lines) := clean_first lines hv
  have ix0 : IntKind.i64.wrap (gain - 2) = gain - 2 := by simp (disch := omega) only [IntWalk.i64_in]
  have ix1 : IntKind.i64.wrap (20 * limit) = 20 * limit := by simp (disch := omega) only [IntWalk.i64_in]
  have hX := Blk.new w 25 [.int .i64 gain, .int .i64 limit, .slice A samples.length cA, .slice G gaps.length c]
  have hB1 : Below w.heap.size w (((w.alloc (.cells #[.int .i64 gain, .int .i64 limit, .slice A samples.length cA, .slice G gaps.length c] 25)).alloc (.cells #[.slice B lines.length cB] 23)).alloc (.cells #[.int .i64 0, .int .i64 0, .slice none 0 0, .slice none 0 0] 25)) := ((alloc_bel _ _).alloc (by simp) _).alloc (by simp; omega) _
  have HCk := hide ((checked_c gain limit A G cA c samples gaps _ (hs.bel hB1) (hr.bel hB1) hn hg).mono (R' := fun r w' => (∃ U cU, r = .returned (.tuple #[.agg #[.int .i64 gain, .int .i64 limit, .slice A samples.length cA, .slice G gaps.length c, .slice U samples.length cU], .int .i64 0]) ∧ RdT w' 4 U (bls (usableL limit samples gaps))) ∧ Below (((w.alloc (.cells #[.int .i64 gain, .int .i64 limit, .slice A samples.length cA, .slice G gaps.length c] 25)).alloc (.cells #[.slice B lines.length cB] 23)).alloc (.cells #[.int .i64 0, .int .i64 0, .slice none 0 0, .slice none 0 0] 25)).heap.size (((w.alloc (.cells #[.int .i64 gain, .int .i64 limit, .slice A samples.length cA, .slice G gaps.length c] 25)).alloc (.cells #[.slice B lines.length cB] 23)).alloc (.cells #[.int .i64 0, .int .i64 0, .slice none 0 0, .slice none 0 0] 25)) w') (fun r w' h => by
    obtain ⟨h, hb⟩ := h
    refine ⟨?_, hb⟩
    rcases h with ⟨h1, h⟩ | ⟨h1, h⟩
    · first | exact absurd hv h1 | exact h
    · first | exact absurd h1 hv | exact h))
  clear hs hr
  go_enter Tryd.func8, Tryd.ntmps8
  go_upto_region 2 with (first | (go_at_call 38; refine HCk.out.mono ?_; rintro e w1 ⟨⟨U, cU, rfl, hU⟩, hb1⟩))
  have hL1 : Blk w1 (w.heap.size + 1) 23 [.slice B lines.length cB] := ((Blk.two w 25 23 [.int .i64 gain, .int .i64 limit, .slice A samples.length cA, .slice G gaps.length c] [.slice B lines.length cB]).bel (alloc_bel _ _)).bel hb1
  have hY1 : Blk w1 (w.heap.size + 1 + 1) 25 [.int .i64 0, .int .i64 0, .slice none 0 0, .slice none 0 0] := by
    have := (Blk.two (w.alloc (.cells #[.int .i64 gain, .int .i64 limit, .slice A samples.length cA, .slice G gaps.length c] 25)) 23 25 [.slice B lines.length cB] [.int .i64 0, .int .i64 0, .slice none 0 0, .slice none 0 0]).bel hb1
    rwa [World.size_alloc] at this
  have hw1 : Below w.heap.size w w1 := tr hB1 hb1 (by simp; omega)
  have hwp := hY1.lt
  have hx1 := hx.bel hw1
  clear hX hB1 HCk hb1 hx
  have hC := Blk.new w1 81 [.int .i64 gain, .int .i64 limit, .slice A samples.length cA, .slice G gaps.length c, .slice U samples.length cU]
  have hA := alloc_bel w1 (.cells #[.int .i64 gain, .int .i64 limit, .slice A samples.length cA, .slice G gaps.length c, .slice U samples.length cU] 81)
  replace hL1 := hL1.bel hA
  replace hY1 := hY1.bel hA
  replace hx1 := hx1.bel hA
  replace hw1 := tr hw1 hA hw1.size
  obtain ⟨p, hp⟩ : ∃ p, w1.heap.size = p := ⟨_, rfl⟩
  obtain ⟨W, hW⟩ : ∃ W, w1.alloc (.cells #[.int .i64 gain, .int .i64 limit, .slice A samples.length cA, .slice G gaps.length c, .slice U samples.length cU] 81) = W := ⟨_, rfl⟩
  have hpW : p + 1 = W.heap.size := by rw [← hW, ← hp]; simp
  rw [hW] at hL1 hY1 hx1 hw1 hC ⊢
  rw [hp] at hwp hC ⊢
  have hpl : p < W.heap.size := by omega
  have hpl2 : W.heap.size ≤ p + 1 := by omega
  have hll : w.heap.size + 1 < W.heap.size := by omega
  clear hW hp hA hpW
  have HXB := hide hx1
  have HY := hide hY1
  clear hx1 hY1
  have l0 := hL1.cell 0
  have c0 := hC.cell 0
  have c1 := hC.cell 1
  simp only [List.getElem?_cons_zero, List.getElem?_cons_succ] at l0 c0 c1
  have HLE := hide (fun W h => linesError_c lines B cB W h hl)
  go_cut [7] from 20 to 36 (fun t7 wx => t7 = .int .i64 (cleanE gain limit samples gaps lines) ∧ Below W.heap.size W wx)
  case first =>
    go_region_held3 (fun w' => (∀ b o, b < W.heap.size → w'.cell? ⟨b, o, none⟩ = W.cell? ⟨b, o, none⟩) ∧ Below W.heap.size W w')
      ((refine kp ?_; (repeat' (first | with_reducible exact Below.refl _ _ | with_reducible exact HB3.out | with_reducible refine Below.drew ?_ | with_reducible refine bel_alloc ?_ ?_ _ | with_reducible refine Below.setCell ?_ ?_ _)); all_goals (first | omega | (simp <;> omega))))
      (first
        | (go_at_call 40; refine (HLE.out _ (HXB.out.bel (by (repeat' (first | with_reducible exact Below.refl _ _ | with_reducible refine Below.drew ?_ | with_reducible refine bel_alloc ?_ ?_ _)); all_goals (first | omega | (simp <;> omega))))).mono ?_; rintro e w3 ⟨rfl, hb3⟩; have HB3 : Hid (Below W.heap.size W w3) := (by refine bel_tr ?_ ?_ hb3; (repeat' (first | with_reducible exact Below.refl _ _ | with_reducible refine Below.drew ?_ | with_reducible refine bel_alloc ?_ ?_ _)); all_goals (first | omega | (simp <;> omega))); have s3 := HB3.out.size)
        | (go_at_call 41; refine (errorIf_c _ _ _).mono ?_; rintro e_ w_ ⟨rfl, rfl⟩) | (go_at_call 60; refine (outside_c _ _ _ _).mono ?_; rintro e_ w_ ⟨rfl, rfl⟩)
        | (go_at_call 39; refine (firstError_4 _ _ _ _ _).mono ?_; rintro e_ w_ ⟨rfl, rfl⟩))
    all_goals
      go_wp2
      go_meet
      refine ⟨by rw [HCE.out], ?_⟩
      (repeat' (first | with_reducible exact Below.refl _ _ | with_reducible exact HB3.out | with_reducible refine Below.drew ?_ | with_reducible refine bel_alloc ?_ ?_ _)); all_goals (first | omega | (simp <;> omega))
  obtain ⟨rfl, hbc⟩ := hcut
  obtain ⟨V, hV⟩ : ∃ V : World, wc = V := ⟨_, rfl⟩
  rw [hV] at hbc ⊢
  clear hV c0 c1 l0 HCE
  have e1 : (cleanE gain limit samples gaps lines != 0) = true := by simpa using HNE.out
  have hYV := HY.out.bel hbc
  have hbV := tr hw1 hbc hw1.size
  have hlV := hYV.lt
  have y0 := hYV.cell 0
  have y1 := hYV.cell 1
  have y2 := hYV.cell 2
  have y3 := hYV.cell 3
  simp only [List.getElem?_cons_zero, List.getElem?_cons_succ] at y0 y1 y2 y3
  have f0 := hYV.frozen 0
  have f1 := hYV.frozen 1
  have f2 := hYV.frozen 2
  have f3 := hYV.frozen 3
  have hE := hYV.set4 (.int .i64 0) (.int .i64 0) (.slice none 0 0) (.slice none 0 0)
  have hqw : w.heap.size ≤ w.heap.size + 1 + 1 := by omega
  have hBE := (((hbV.setCell (p := ⟨w.heap.size + 1 + 1, 0, none⟩) hqw (.int .i64 0)).setCell (p := ⟨w.heap.size + 1 + 1, 1, none⟩) hqw (.int .i64 0)).setCell (p := ⟨w.heap.size + 1 + 1, 2, none⟩) hqw (.slice none 0 0)).setCell (p := ⟨w.heap.size + 1 + 1, 3, none⟩) hqw (.slice none 0 0)
  obtain ⟨ce, HcE⟩ : ∃ ce, Hid (cleanE gain limit samples gaps lines = ce) := ⟨_, rfl⟩
  rw [HcE.out] at e1 ⊢
  clear hYV HY
  go_wp2
  generalize (((V.setCell ⟨w.heap.size + 1 + 1, 0, none⟩ (.int .i64 0)).setCell ⟨w.heap.size + 1 + 1, 1, none⟩ (.int .i64 0)).setCell ⟨w.heap.size + 1 + 1, 2, none⟩ (.slice none 0 0)).setCell ⟨w.heap.size + 1 + 1, 3, none⟩ (.slice none 0 0) = WE at hE hBE ⊢
  have t0 := hE.cell 0
  have t1 := hE.cell 1
  have t2 := hE.cell 2
  have t3 := hE.cell 3
  simp only [List.getElem?_cons_zero, List.getElem?_cons_succ] at t0 t1 t2 t3
  refine bodyPost_ret (by simp [results, Tryd.results8, go_sem, t0, t1, t2, t3]; try rfl) rfl ?_
  exact ⟨by rw [HcE.out], hBE⟩

theorem cleaned_bad (gain limit : Int) (A G B : Option Addr) (cA c cB : Nat) (samples : List (Int × Int)) (gaps lines : List Int) (w : World) (hs : Rd w A (gs samples)) (hr : Rd w G (ints gaps)) (hx : Rd w B (ints lines)) (hn : samples.length ≤ 1000) (hg : gaps.length ≤ 1000)
    (hl : lines.length ≤ 1000) (he : cleanE gain limit samples gaps lines ≠ 0) :
    Calls Tryd.prog 8 #[.agg #[.int .i64 gain, .int .i64 limit, .slice A samples.length cA, .slice G gaps.length c], .slice B lines.length cB] w fun r w' =>
      r = .returned (.tuple #[.agg #[.int .i64 0, .int .i64 0, .slice none 0 0, .slice none 0 0], .int .i64 (cleanE gain limit samples gaps lines)]) ∧ Below w.heap.size w w' := by
  by_cases hv : (frameE gain limit samples gaps).2 = 0
  · exact cleaned_bad2 gain limit A G B cA c cB samples gaps lines w hs hr hx hn hg hl hv (by unfold cleanE at he; rwa [if_neg (by simp [hv])] at he)
  · exact cleaned_bad1 gain limit A G B cA c cB samples gaps lines w hs hr hx hn hg hl hv
theorem clean_ok {gain limit : Int} {samples : List (Int × Int)} {gaps lines : List Int} (he : cleanE gain limit samples gaps lines = 0) : (frameE gain limit samples gaps).2 = 0 ∧ remE gain limit lines = 0 := by
  unfold cleanE at he
  by_cases hv : (frameE gain limit samples gaps).2 = 0
  · exact ⟨hv, by rwa [if_neg (by simp [hv])] at he⟩
  · rw [if_pos hv] at he; exact absurd he hv
end Go.Proofs.YtnigmdkhecblnaaDoor
