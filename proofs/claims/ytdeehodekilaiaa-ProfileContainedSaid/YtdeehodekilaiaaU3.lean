/- Contracts: the trace of a profile by some frequencies. -/
import Derived.Test.YtdeehodekilaiaaU2b
import Derived.Test.YtdeehodekilaiaaK1
set_option linter.unusedSimpArgs false
set_option linter.unusedVariables false
namespace Go.Proofs.Ytdeehodekilaiaa
open Go.RowKit
set_option maxRecDepth 100000

theorem three_new (w W0 : World) (t0 t1 t2 : TypeId) (a b c : List Value) (h : ((w.alloc (.cells a.toArray t0)).alloc (.cells b.toArray t1)).alloc (.cells c.toArray t2) = W0) :
    W0.heap.size = w.heap.size + 3 ∧ Blk W0 w.heap.size t0 a ∧ Blk W0 (w.heap.size + 1) t1 b ∧ Blk W0 (w.heap.size + 2) t2 c ∧ Below w.heap.size w W0 := by
  subst h
  refine ⟨by simp, ((Blk.new w t0 a).bel (alloc_bel _ _)).bel (alloc_bel _ _), ?_, ?_, ?_⟩
  · have := (Blk.new (w.alloc (.cells a.toArray t0)) t1 b).bel (alloc_bel _ (.cells c.toArray t2))
    simpa using this
  · have := Blk.new ((w.alloc (.cells a.toArray t0)).alloc (.cells b.toArray t1)) t2 c
    simpa using this
  · exact bel_alloc (bel_alloc (alloc_bel _ _) (by simp) _) (by simp; omega) _

set_option maxHeartbeats 2000000 in
theorem traceOf_bad (base : Int) (A : Option Addr) (c : Nat) (l : List G) (F : Option Addr) (fc : Nat) (fs : List Int) (w : World) (hr : Rd w A (gs l)) (hl : l.length ≤ 1000) (hfs : fs.length ≤ 1000) (he : trfHead (proE base l).2 fs.length ≠ 0) :
    Calls Try.prog 8 #[.agg #[.int .i64 base, .slice A l.length c], .slice F fs.length fc] w fun r w' => r = .returned (.tuple #[.agg #[.slice none 0 0, .int .i64 0, .int .i64 0], .int .i64 0, .int .i64 (trfHead (proE base l).2 fs.length)]) ∧ Below w.heap.size w w' := by
  have HE := hide (fun W h => profileError_c base A c l W h hl)
  have HH : Hid (firstE [(proE base l).2, errIf ((fs.length : Int) == 0) 10, errIf (decide (8 < (fs.length : Int))) 8] = trfHead (proE base l).2 fs.length) := rfl
  obtain ⟨W0, hW0⟩ : ∃ W0, ((w.alloc (.cells #[.int .i64 base, .slice A l.length c] 24)).alloc (.cells #[.slice F fs.length fc] 25)).alloc (.cells #[.slice none 0 0, .int .i64 0, .int .i64 0] 30) = W0 := ⟨_, rfl⟩
  obtain ⟨p, hp⟩ : ∃ p, w.heap.size = p := ⟨_, rfl⟩
  obtain ⟨hs0, hX0, hF0, hT0, hB0⟩ := three_new w W0 _ _ _ [_, _] [_] [_, _, _] hW0
  rw [hp] at hs0 hX0 hF0 hT0 hB0
  have hr0 := hr.bel (by rw [hp]; exact hB0)
  have HW := hide hW0
  clear hW0
  generalize (proE base l).2 = pe at HE HH he ⊢
  have c0 := hX0.cell 0; have c1 := hX0.cell 1; simp only [List.getElem?_cons_zero, List.getElem?_cons_succ] at c0 c1
  have c2 := hF0.cell 0
  simp only [List.getElem?_cons_zero] at c2
  have z0 := hX0.lt
  have z1 := hF0.lt
  have z2 := hT0.lt
  go_enter Try.func8, Try.ntmps8
  go_upto_region 1 with fail
  rw [HW.out]
  go_cut [7] from 10 to 21 (fun t wx => t = .int .i64 (trfHead pe fs.length) ∧ Below W0.heap.size W0 wx)
  case first =>
    go_region_held3 (fun w' => (∀ b o, b < W0.heap.size → w'.cell? ⟨b, o, none⟩ = W0.cell? ⟨b, o, none⟩) ∧ Below W0.heap.size W0 w')
      ((refine kp ?_; ((repeat' (first | with_reducible exact Below.refl _ _ | with_reducible exact HB1.out | with_reducible refine Below.drew ?_ | with_reducible refine bel_alloc ?_ ?_ _)); all_goals (first | omega | (simp <;> omega)))))
      (first
        | (go_at_call 34; refine (HE.out _ (hr0.bel (by ((repeat' (first | with_reducible exact Below.refl _ _ | with_reducible exact HB1.out | with_reducible refine Below.drew ?_ | with_reducible refine bel_alloc ?_ ?_ _)); all_goals (first | omega | (simp <;> omega)))))).mono ?_; rintro e w4 ⟨rfl, hb4⟩; have HB1 : Hid (Below W0.heap.size W0 w4) := (by refine hide (Below.trans ?_ (hb4.mono ?_)); ((repeat' (first | with_reducible exact Below.refl _ _ | with_reducible exact HB1.out | with_reducible refine Below.drew ?_ | with_reducible refine bel_alloc ?_ ?_ _)); all_goals (first | omega | (simp <;> omega)))); have s1 := HB1.out.size)
        | (go_at_call 35; refine (errorIf_c _ _ _).mono ?_; rintro e_ w_ ⟨rfl, rfl⟩)
        | (go_at_call 33; refine (firstError_3D _ _ _ _).mono ?_; rintro e_ w_ ⟨rfl, rfl⟩)
        | (go_at_call 33; refine (firstError_3 _ _ _ _).mono ?_; rintro e_ w_ ⟨rfl, rfl⟩))
    all_goals go_wp2
    all_goals go_meet
    all_goals exact ⟨by rw [HH.out], by ((repeat' (first | with_reducible exact Below.refl _ _ | with_reducible exact HB1.out | with_reducible refine Below.drew ?_ | with_reducible refine bel_alloc ?_ ?_ _)); all_goals (first | omega | (simp <;> omega)))⟩
  obtain ⟨rfl, hBc⟩ := hcut
  have hXc := hX0.bel hBc
  have hFc := hF0.bel hBc
  have hTc := hT0.bel hBc
  have hBw := bel_tr hB0 (by omega) hBc
  have hsc := hBc.size
  clear c0 c1 c2 z0 z1 z2 hX0 hF0 hT0 HE HH hB0 hBc
  have e1 : (trfHead pe fs.length != 0) = true := by simpa using he
  clear he
  obtain ⟨E, hEE⟩ : ∃ E, trfHead pe fs.length = E := ⟨_, rfl⟩
  rw [hEE] at e1 ⊢
  have HEE := hide hEE
  clear hEE
  have fz0 := hTc.frozen 0
  have fz1 := hTc.frozen 1
  have fz2 := hTc.frozen 2
  have k0 := hTc.cell 0; have k1 := hTc.cell 1; have k2 := hTc.cell 2; simp only [List.getElem?_cons_zero, List.getElem?_cons_succ] at k0 k1 k2
  have zt := hTc.lt
  go_wp2
  obtain ⟨WE, hWE⟩ : ∃ WE, ((wc.setCell ⟨p + 2, 0, none⟩ (.slice none 0 0)).setCell ⟨p + 2, 1, none⟩ (.int .i64 0)).setCell ⟨p + 2, 2, none⟩ (.int .i64 0) = WE := ⟨_, rfl⟩
  rw [hWE]
  have hE : Blk WE (p + 2) 30 [.slice none 0 0, .int .i64 0, .int .i64 0] := by rw [← hWE]; exact ((hTc.set_ 0 _).set_ 1 _).set_ 2 _
  have hBE : Below p w WE := by rw [← hWE]; exact ((hBw.setCell (by show p ≤ p + 2; omega) _).setCell (by show p ≤ p + 2; omega) _).setCell (by show p ≤ p + 2; omega) _
  clear hWE
  have g0 := hE.cell 0; have g1 := hE.cell 1; have g2 := hE.cell 2; simp only [List.getElem?_cons_zero, List.getElem?_cons_succ] at g0 g1 g2
  exact bodyPost_ret (v := .tuple #[.agg #[.slice none 0 0, .int .i64 0, .int .i64 0], .int .i64 0, .int .i64 E]) (by simp [results, Try.results8, go_sem, g0, g1, g2]; try rfl) rfl ⟨by rw [HEE.out], by rw [hp]; exact hBE⟩

set_option maxHeartbeats 4000000 in
theorem traceOf_ok (base : Int) (A : Option Addr) (c : Nat) (l : List G) (F : Option Addr) (fc : Nat) (fs : List Int) (w : World) (hr : Rd w A (gs l)) (hf : Rd w F (ints fs)) (hl : l.length ≤ 1000) (hfs : fs.length ≤ 1000) (he : trfHead (proE base l).2 fs.length = 0) :
    Calls Try.prog 8 #[.agg #[.int .i64 base, .slice A l.length c], .slice F fs.length fc] w fun r w' => (∃ A' c', r = .returned (.tuple #[.agg #[.slice A' (trfR base l fs).1.length c', .int .i64 0, .int .i64 0], .int .i64 (trfR base l fs).2.1, .int .i64 (trfR base l fs).2.2]) ∧ Rd w' A' (ps (trfR base l fs).1)) ∧ Below w.heap.size w w' := by
  obtain ⟨i0, hi, iz0, iz1, iz2⟩ := info_parts Try.infoP
  have hm1 : ∀ W, (Instr.makeSlice 28 (.int .i64 (fs.length : Int)) (.int .i64 (fs.length : Int))).run Try.prog W = .ok (.slice (some ⟨W.heap.size, 0, none⟩) fs.length fs.length) (W.alloc (.cells (ps (List.replicate fs.length P0)).toArray 55)) := fun W => by
    have h1 := run_make_rowN (P := Try.prog) 28 55 i0 _ Try.underlying28 hi iz0 .i64 .i64 fs.length fs.length (Nat.le_refl _) (by rw [iz2]; omega) (by omega) W
    have h2 := madeCells_p fs.length
    rw [iz1] at h1
    rw [h1]
    congr 3
    rw [← h2]
  have HT : Hid (trfR base l fs = if (firstBadFrom (trfE base l fs) 0 fs).2 = 0 then (fs.map (trfP base l), 0, 0) else ([], (firstBadFrom (trfE base l fs) 0 fs).1, (firstBadFrom (trfE base l fs) 0 fs).2)) := by show _ = _; unfold trfR; rw [if_pos he]
  have HAl := hide (hr.low)
  have HFl := hide (hf.low)
  have HE := hide (fun W h => profileError_c base A c l W h hl)
  have HH : Hid (firstE [(proE base l).2, errIf ((fs.length : Int) == 0) 10, errIf (decide (8 < (fs.length : Int))) 8] = trfHead (proE base l).2 fs.length) := rfl
  obtain ⟨W0, hW0⟩ : ∃ W0, ((w.alloc (.cells #[.int .i64 base, .slice A l.length c] 24)).alloc (.cells #[.slice F fs.length fc] 25)).alloc (.cells #[.slice none 0 0, .int .i64 0, .int .i64 0] 30) = W0 := ⟨_, rfl⟩
  obtain ⟨p, hp⟩ : ∃ p, w.heap.size = p := ⟨_, rfl⟩
  obtain ⟨hs0, hX0, hF0, hT0, hB0⟩ := three_new w W0 _ _ _ [_, _] [_] [_, _, _] hW0
  rw [hp] at hs0 hX0 hF0 hT0 hB0
  have hr0 := hr.bel (by rw [hp]; exact hB0)
  have HW := hide hW0
  clear hW0
  generalize (proE base l).2 = pe at HE HH he ⊢
  have c0 := hX0.cell 0; have c1 := hX0.cell 1; simp only [List.getElem?_cons_zero, List.getElem?_cons_succ] at c0 c1
  have c2 := hF0.cell 0
  simp only [List.getElem?_cons_zero] at c2
  have z0 := hX0.lt
  have z1 := hF0.lt
  have z2 := hT0.lt
  go_enter Try.func8, Try.ntmps8
  go_upto_region 1 with fail
  rw [HW.out]
  go_cut [7] from 10 to 21 (fun t wx => t = .int .i64 (trfHead pe fs.length) ∧ Below W0.heap.size W0 wx)
  case first =>
    go_region_held3 (fun w' => (∀ b o, b < W0.heap.size → w'.cell? ⟨b, o, none⟩ = W0.cell? ⟨b, o, none⟩) ∧ Below W0.heap.size W0 w')
      ((refine kp ?_; ((repeat' (first | with_reducible exact Below.refl _ _ | with_reducible exact HB1.out | with_reducible refine Below.drew ?_ | with_reducible refine bel_alloc ?_ ?_ _)); all_goals (first | omega | (simp <;> omega)))))
      (first
        | (go_at_call 34; refine (HE.out _ (hr0.bel (by ((repeat' (first | with_reducible exact Below.refl _ _ | with_reducible exact HB1.out | with_reducible refine Below.drew ?_ | with_reducible refine bel_alloc ?_ ?_ _)); all_goals (first | omega | (simp <;> omega)))))).mono ?_; rintro e w4 ⟨rfl, hb4⟩; have HB1 : Hid (Below W0.heap.size W0 w4) := (by refine hide (Below.trans ?_ (hb4.mono ?_)); ((repeat' (first | with_reducible exact Below.refl _ _ | with_reducible exact HB1.out | with_reducible refine Below.drew ?_ | with_reducible refine bel_alloc ?_ ?_ _)); all_goals (first | omega | (simp <;> omega)))); have s1 := HB1.out.size)
        | (go_at_call 35; refine (errorIf_c _ _ _).mono ?_; rintro e_ w_ ⟨rfl, rfl⟩)
        | (go_at_call 33; refine (firstError_3D _ _ _ _).mono ?_; rintro e_ w_ ⟨rfl, rfl⟩)
        | (go_at_call 33; refine (firstError_3 _ _ _ _).mono ?_; rintro e_ w_ ⟨rfl, rfl⟩))
    all_goals go_wp2
    all_goals go_meet
    all_goals exact ⟨by rw [HH.out], by ((repeat' (first | with_reducible exact Below.refl _ _ | with_reducible exact HB1.out | with_reducible refine Below.drew ?_ | with_reducible refine bel_alloc ?_ ?_ _)); all_goals (first | omega | (simp <;> omega)))⟩
  obtain ⟨rfl, hBc⟩ := hcut
  have hXc := hX0.bel hBc
  have hFc := hF0.bel hBc
  have hTc := hT0.bel hBc
  have hBw := bel_tr hB0 (by omega) hBc
  have hsc := hBc.size
  clear c0 c1 c2 z0 z1 z2 hX0 hF0 hT0 HE HH hB0 hBc
  have e1 : (trfHead pe fs.length != 0) = false := by simpa using he
  clear he
  have hfc := hf.below hBw (by omega)
  have hrc := hr.below hBw (by omega)
  have kf := hFc.cell 0
  simp only [List.getElem?_cons_zero] at kf
  have zf := hFc.lt
  go_upto_region 5 with fail
  obtain ⟨Q, hQ⟩ : ∃ Q, wc.heap.size = Q := ⟨_, rfl⟩
  obtain ⟨W5, hW5⟩ : ∃ W5, (wc.alloc (.cells (ps (List.replicate fs.length P0)).toArray 55)).alloc (.cells #[.slice (some ⟨wc.heap.size, 0, none⟩) fs.length fs.length] 28) = W5 := ⟨_, rfl⟩
  obtain ⟨hQ5, hS5, hb5⟩ : Blk W5 Q 55 (ps (List.replicate fs.length P0)) ∧ Blk W5 (Q + 1) 28 [.slice (some ⟨Q, 0, none⟩) fs.length fs.length] ∧ Below Q wc W5 := by
    rw [← hW5, hQ]
    have := two_new wc 55 28 (ps (List.replicate fs.length P0)) [.slice (some ⟨Q, 0, none⟩) fs.length fs.length]
    rw [hQ] at this
    exact this
  rw [hW5, hQ]
  clear hW5
  have hpQ : p + 2 < Q := by omega
  have hI0 : TrI base A c l F fc fs w p Q 0 W5 := ⟨hXc.below hb5 (by omega), hS5, hFc.below hb5 (by omega), hTc.below hb5 (by omega), by rw [mixL_zero]; exact hQ5, hrc.below hb5 (by omega), hfc.below hb5 (by omega), hBw.trans (hb5.mono (by omega)), hpQ⟩
  have hA : gs l ≠ [] → ∀ b off, A = some ⟨b, off, none⟩ → b ≠ Q := fun h b off e => by have := HAl.out h b off e; omega
  have hF : ints fs ≠ [] → ∀ b off, F = some ⟨b, off, none⟩ → b ≠ Q := fun h b off e => by have := HFl.out h b off e; omega
  have c3 := hI0.b3.cell 0
  have c2 := hI0.b2.cell 0
  simp only [List.getElem?_cons_zero] at c2 c3
  have y1 := hI0.b3.lt
  have y2 := hI0.b2.lt
  clear hXc hFc hTc hBw hsc hfc hrc kf zf hQ5 hS5 hb5
  go_upto_region 6 with (first | (go_at_call 36; refine (firstBadI_c (trfE base l fs) _ fs F fc _ (fun k W => TrI base A c l F fc fs w p Q k W) (fun W => Blk W (p + 2) 30 [.slice none 0 0, .int .i64 0, .int .i64 0] ∧ Below p w W) _ (fun _ _ h => h.rf) hfs Try.call37 hI0 (fun _ _ h => ⟨h.b4, h.bel⟩) (fun k h W hI => (traceOf1_c base A c l F fc fs w p Q k fs[k] W hI hl h hfs (getD_at h 0) hA hF).mono (fun r W' hx => ⟨hx.1, fun _ => hx.2, hx.2.b4, hx.2.bel⟩))).mono ?_; rintro e w6 ⟨rfl, hOK, hT6, hB6⟩))
  have HOK := hide hOK
  clear hOK hI0 c2 c3 y1 y2 HAl HFl hA hF
  generalize firstBadFrom (trfE base l fs) 0 fs = fb at HT HOK ⊢
  have fz0 := hT6.frozen 0
  have fz1 := hT6.frozen 1
  have fz2 := hT6.frozen 2
  have k0 := hT6.cell 0; have k1 := hT6.cell 1; have k2 := hT6.cell 2; simp only [List.getElem?_cons_zero, List.getElem?_cons_succ] at k0 k1 k2
  have zt := hT6.lt
  by_cases h0 : fb.2 = 0
  · have e2 : (fb.2 != 0) = false := by simpa using h0
    have HF : Hid (trfR base l fs = (fs.map (trfP base l), 0, 0)) := by show _ = _; rw [HT.out, if_pos h0]
    have hI6 := HOK.out h0
    clear HT HOK h0
    have c2 := hI6.b2.cell 0
    simp only [List.getElem?_cons_zero] at c2
    have y2 := hI6.b2.lt
    go_wp2
    obtain ⟨WE, hWE⟩ : ∃ WE, ((w6.setCell ⟨p + 2, 0, none⟩ (.slice (some ⟨Q, 0, none⟩) fs.length fs.length)).setCell ⟨p + 2, 1, none⟩ (.int .i64 0)).setCell ⟨p + 2, 2, none⟩ (.int .i64 0) = WE := ⟨_, rfl⟩
    rw [hWE]
    have hE : Blk WE (p + 2) 30 [.slice (some ⟨Q, 0, none⟩) fs.length fs.length, .int .i64 0, .int .i64 0] := by rw [← hWE]; exact ((hT6.set_ 0 _).set_ 1 _).set_ 2 _
    have hBE : Below p w WE := by rw [← hWE]; exact ((hB6.setCell (by show p ≤ p + 2; omega) _).setCell (by show p ≤ p + 2; omega) _).setCell (by show p ≤ p + 2; omega) _
    have hQE : Blk WE Q 55 (ps (fs.map (trfP base l))) := by rw [← hWE, ← mixL_all]; exact ((hI6.bq.far (by show Q ≠ p + 2; omega) _).far (by show Q ≠ p + 2; omega) _).far (by show Q ≠ p + 2; omega) _
    clear hWE
    have g0 := hE.cell 0; have g1 := hE.cell 1; have g2 := hE.cell 2; simp only [List.getElem?_cons_zero, List.getElem?_cons_succ] at g0 g1 g2
    exact bodyPost_ret (v := .tuple #[.agg #[.slice (some ⟨Q, 0, none⟩) fs.length fs.length, .int .i64 0, .int .i64 0], .int .i64 0, .int .i64 0]) (by simp [results, Try.results8, go_sem, g0, g1, g2]; try rfl) rfl ⟨⟨some ⟨Q, 0, none⟩, fs.length, by rw [HF.out, List.length_map], by rw [HF.out]; exact hQE.rd (List.prefix_refl _)⟩, by rw [hp]; exact hBE⟩
  · have e2 : (fb.2 != 0) = true := by simpa using h0
    have HF : Hid (trfR base l fs = ([], fb.1, fb.2)) := by show _ = _; rw [HT.out, if_neg h0]
    clear HT HOK h0
    obtain ⟨fi, fe⟩ := fb
    dsimp only at e2 HF ⊢
    go_wp2
    obtain ⟨WE, hWE⟩ : ∃ WE, ((w6.setCell ⟨p + 2, 0, none⟩ (.slice none 0 0)).setCell ⟨p + 2, 1, none⟩ (.int .i64 0)).setCell ⟨p + 2, 2, none⟩ (.int .i64 0) = WE := ⟨_, rfl⟩
    rw [hWE]
    have hE : Blk WE (p + 2) 30 [.slice none 0 0, .int .i64 0, .int .i64 0] := by rw [← hWE]; exact ((hT6.set_ 0 _).set_ 1 _).set_ 2 _
    have hBE : Below p w WE := by rw [← hWE]; exact ((hB6.setCell (by show p ≤ p + 2; omega) _).setCell (by show p ≤ p + 2; omega) _).setCell (by show p ≤ p + 2; omega) _
    clear hWE
    have g0 := hE.cell 0; have g1 := hE.cell 1; have g2 := hE.cell 2; simp only [List.getElem?_cons_zero, List.getElem?_cons_succ] at g0 g1 g2
    exact bodyPost_ret (v := .tuple #[.agg #[.slice none 0 0, .int .i64 0, .int .i64 0], .int .i64 fi, .int .i64 fe]) (by simp [results, Try.results8, go_sem, g0, g1, g2]; try rfl) rfl ⟨⟨none, 0, by rw [HF.out]; rfl, by rw [HF.out]; exact Rd.nil _ _⟩, by rw [hp]; exact hBE⟩

theorem traceOf_c (base : Int) (A : Option Addr) (c : Nat) (l : List G) (F : Option Addr) (fc : Nat) (fs : List Int) (w : World) (hr : Rd w A (gs l)) (hf : Rd w F (ints fs)) (hl : l.length ≤ 1000) (hfs : fs.length ≤ 1000) :
    Calls Try.prog 8 #[.agg #[.int .i64 base, .slice A l.length c], .slice F fs.length fc] w fun r w' => (∃ A' c', r = .returned (.tuple #[.agg #[.slice A' (trfR base l fs).1.length c', .int .i64 0, .int .i64 0], .int .i64 (trfR base l fs).2.1, .int .i64 (trfR base l fs).2.2]) ∧ Rd w' A' (ps (trfR base l fs).1)) ∧ Below w.heap.size w w' := by
  by_cases he : trfHead (proE base l).2 fs.length = 0
  · exact traceOf_ok base A c l F fc fs w hr hf hl hfs he
  · refine (traceOf_bad base A c l F fc fs w hr hl hfs he).mono fun r w' ⟨h, hb⟩ => ⟨⟨none, 0, ?_⟩, hb⟩
    rw [trfR_head rfl he]
    exact ⟨h, Rd.nil _ _⟩
end Go.Proofs.Ytdeehodekilaiaa
