/- Contracts: a frame is cleaned. -/
import Derived.Test.YtnigmdkhecblnaaDoorQ6
set_option linter.unusedSimpArgs false
set_option linter.unusedVariables false
namespace Go.Proofs.YtnigmdkhecblnaaDoor
open Go.RowKit
set_option maxRecDepth 100000
attribute [local go_sem] run_store_complex
attribute [local go_sem] Oper.semAt_some

set_option maxHeartbeats 4000000 in
theorem cleaned_ok (gain limit : Int) (A G B : Option Addr) (cA c cB : Nat) (samples : List (Int × Int)) (gaps lines : List Int) (w : World) (hT : Tab w) (hs : Rd w A (gs samples)) (hr : Rd w G (ints gaps)) (hx : Rd w B (ints lines)) (hn : samples.length ≤ 1000) (hg : gaps.length ≤ 1000)
    (hl : lines.length ≤ 1000) (hv : (frameE gain limit samples gaps).2 = 0) (hz : remE gain limit lines = 0) :
    Calls Tryd.prog 8 #[.agg #[.int .i64 gain, .int .i64 limit, .slice A samples.length cA, .slice G gaps.length c], .slice B lines.length cB] w fun r w' =>
      (∃ A' cA' G' c', r = .returned (.tuple #[.agg #[.int .i64 (gain - 2), .int .i64 (20 * limit), .slice A' samples.length cA', .slice G' (idxL (usableL limit samples gaps) false samples.length).length c'], .int .i64 0]) ∧
        RdT w' 47 A' (gs (cleanL samples (usableL limit samples gaps) lines samples.length)) ∧ RdT w' 3 G' (ints (idxL (usableL limit samples gaps) false samples.length))) ∧ Below w.heap.size w w' := by
  obtain ⟨i0, hi, iz0, iz1, iz2⟩ := info_parts Tryd.info76
  obtain ⟨hh, hsamp, _⟩ := frameE_zero hv
  obtain ⟨q1, q2, l1, l2, n1, n2⟩ := headE_zero hh
  have HSB : Hid (∀ q ∈ samples, gle 2000000 q) := fun q hq => by
    have := hsamp q hq
    simp only [gle]; omega
  have hCE : Hid (firstE [0, linesE lines, errIf (decide (2000000 < 20 * limit)) 8, errIf (decide (gain - 2 < -8)) 22] = 0) := by
    show _ = _
    rw [clean_first lines hv, cleanE, if_neg (by simp [hv]), hz]
  have hX := Blk.new w 25 [.int .i64 gain, .int .i64 limit, .slice A samples.length cA, .slice G gaps.length c]
  have hB1 : Below w.heap.size w (((w.alloc (.cells #[.int .i64 gain, .int .i64 limit, .slice A samples.length cA, .slice G gaps.length c] 25)).alloc (.cells #[.slice B lines.length cB] 23)).alloc (.cells #[.int .i64 0, .int .i64 0, .slice none 0 0, .slice none 0 0] 25)) := ((alloc_bel _ _).alloc (by simp) _).alloc (by simp; omega) _
  have HCk := hide ((checked_c gain limit A G cA c samples gaps _ (hs.bel hB1) (hr.bel hB1) hn hg).mono (R' := fun r w' => (∃ U cU, r = .returned (.tuple #[.agg #[.int .i64 gain, .int .i64 limit, .slice A samples.length cA, .slice G gaps.length c, .slice U samples.length cU], .int .i64 0]) ∧ RdT w' 4 U (bls (usableL limit samples gaps))) ∧ Below (((w.alloc (.cells #[.int .i64 gain, .int .i64 limit, .slice A samples.length cA, .slice G gaps.length c] 25)).alloc (.cells #[.slice B lines.length cB] 23)).alloc (.cells #[.int .i64 0, .int .i64 0, .slice none 0 0, .slice none 0 0] 25)).heap.size (((w.alloc (.cells #[.int .i64 gain, .int .i64 limit, .slice A samples.length cA, .slice G gaps.length c] 25)).alloc (.cells #[.slice B lines.length cB] 23)).alloc (.cells #[.int .i64 0, .int .i64 0, .slice none 0 0, .slice none 0 0] 25)) w') (fun r w' h => by
    obtain ⟨h, hb⟩ := h
    refine ⟨?_, hb⟩
    rcases h with ⟨h, _⟩ | ⟨_, h⟩
    · exact absurd hv h
    · exact h))
  have g1 : -8 ≤ gain - 2 := by
    unfold remE at hz
    split at hz
    · omega
    · split at hz
      · cases hz
      · split at hz
        · cases hz
        · omega
  have g2 : linesE lines = 0 := by
    unfold remE at hz
    by_cases h : linesE lines = 0
    · exact h
    · rw [if_pos h] at hz; exact hz
  refine calls_marks 5 Tryd.func8 rfl ?_
  simp only [Tryd.ntmps8, List.size_toArray, List.length_cons, List.length_nil, Nat.reduceAdd, Nat.reduceSub, Array.replicate_succ, Array.replicate_zero, List.push_toArray, List.append_toArray, List.nil_append, List.cons_append]
  go_upto_region 2 with (first | (go_at_call 38; refine HCk.out.mono ?_; rintro e w1 ⟨⟨U, cU, rfl, hU⟩, hb1⟩))
  have hX1 := ((hX.bel (alloc_bel _ _)).bel (alloc_bel _ _)).bel hb1
  have hL1 : Blk w1 (w.heap.size + 1) 23 [.slice B lines.length cB] := ((Blk.two w 25 23 [.int .i64 gain, .int .i64 limit, .slice A samples.length cA, .slice G gaps.length c] [.slice B lines.length cB]).bel (alloc_bel _ _)).bel hb1
  have hY1 : Blk w1 (w.heap.size + 1 + 1) 25 [.int .i64 0, .int .i64 0, .slice none 0 0, .slice none 0 0] := by
    have := (Blk.two (w.alloc (.cells #[.int .i64 gain, .int .i64 limit, .slice A samples.length cA, .slice G gaps.length c] 25)) 23 25 [.slice B lines.length cB] [.int .i64 0, .int .i64 0, .slice none 0 0, .slice none 0 0]).bel hb1
    rwa [World.size_alloc] at this
  have hw1 : Below w.heap.size w w1 := tr hB1 hb1 (by simp; omega)
  have hwp := hY1.lt
  have hs1 := hs.bel hw1
  have hx1 := hx.bel hw1
  have hT1 := hT.bel hw1
  clear hX hB1 HCk hb1 hs hr hx hT
  have hC := Blk.new w1 81 [.int .i64 gain, .int .i64 limit, .slice A samples.length cA, .slice G gaps.length c, .slice U samples.length cU]
  have hA := alloc_bel w1 (.cells #[.int .i64 gain, .int .i64 limit, .slice A samples.length cA, .slice G gaps.length c, .slice U samples.length cU] 81)
  replace hX1 := hX1.bel hA
  replace hL1 := hL1.bel hA
  replace hY1 := hY1.bel hA
  replace hs1 := hs1.bel hA
  replace hx1 := hx1.bel hA
  replace hU := hU.bel hA
  replace hT1 := hT1.bel hA
  replace hw1 := tr hw1 hA hw1.size
  obtain ⟨p, hp⟩ : ∃ p, w1.heap.size = p := ⟨_, rfl⟩
  obtain ⟨W, hW⟩ : ∃ W, w1.alloc (.cells #[.int .i64 gain, .int .i64 limit, .slice A samples.length cA, .slice G gaps.length c, .slice U samples.length cU] 81) = W := ⟨_, rfl⟩
  have hpW : p + 1 = W.heap.size := by rw [← hW, ← hp]; simp
  rw [hW] at hX1 hL1 hY1 hs1 hx1 hU hT1 hw1 hC ⊢
  rw [hp] at hwp hC ⊢
  have hpl : p < W.heap.size := by omega
  have hpl2 : W.heap.size ≤ p + 1 := by omega
  have hll : w.heap.size + 1 < W.heap.size := by omega
  clear hW hp hA hpW
  have HU := hide hU
  have HXB := hide hx1
  have HSA := hide hs1
  have HT := hide hT1
  have HY := hide hY1
  clear hU hx1 hs1 hT1 hY1 hh hsamp
  have l0 := hL1.cell 0
  have c0 := hC.cell 0
  have c1 := hC.cell 1
  simp only [List.getElem?_cons_zero, List.getElem?_cons_succ] at l0 c0 c1
  have ix0 : IntKind.i64.wrap (gain - 2) = gain - 2 := by simp (disch := omega) only [IntWalk.i64_in]
  have ix1 : IntKind.i64.wrap (20 * limit) = 20 * limit := by simp (disch := omega) only [IntWalk.i64_in]
  have HLE := hide (fun W h => linesError_c lines B cB W h hl)
  have HG2 := hide g2
  clear g2 hz hv
  go_cut [7] from 20 to 36 (fun t7 wx => t7 = .int .i64 0 ∧ Below W.heap.size W wx)
  case first =>
    --<RA
    go_region_held3 (fun w' => (∀ b o, b < W.heap.size → w'.cell? ⟨b, o, none⟩ = W.cell? ⟨b, o, none⟩) ∧ Below W.heap.size W w')
      ((refine kp ?_; (repeat' (first | with_reducible exact Below.refl _ _ | with_reducible exact HB3.out | with_reducible refine Below.drew ?_ | with_reducible refine bel_alloc ?_ ?_ _ | with_reducible refine Below.setCell ?_ ?_ _)); all_goals (first | omega | (simp <;> omega))))
      (first
        | (go_at_call 40; refine (HLE.out _ (HXB.out.bel (by (repeat' (first | with_reducible exact Below.refl _ _ | with_reducible refine Below.drew ?_ | with_reducible refine bel_alloc ?_ ?_ _)); all_goals (first | omega | (simp <;> omega))))).mono ?_; rintro e w3 ⟨rfl, hb3⟩; have HB3 : Hid (Below W.heap.size W w3) := (by refine bel_tr ?_ ?_ hb3; (repeat' (first | with_reducible exact Below.refl _ _ | with_reducible refine Below.drew ?_ | with_reducible refine bel_alloc ?_ ?_ _)); all_goals (first | omega | (simp <;> omega))); have s3 := HB3.out.size)
        | (go_at_call 41; refine (errorIf_c _ _ _).mono ?_; rintro e_ w_ ⟨rfl, rfl⟩) | (go_at_call 60; refine (outside_c _ _ _ _).mono ?_; rintro e_ w_ ⟨rfl, rfl⟩)
        | (go_at_call 39; refine (firstError_4 _ _ _ _ _).mono ?_; rintro e_ w_ ⟨rfl, rfl⟩))
    all_goals
      go_wp2
      go_meet
      refine ⟨by rw [hCE.out], ?_⟩
      (repeat' (first | with_reducible exact Below.refl _ _ | with_reducible exact HB3.out | with_reducible refine Below.drew ?_ | with_reducible refine bel_alloc ?_ ?_ _)); all_goals (first | omega | (simp <;> omega))
    -->RA
  obtain ⟨rfl, hbc⟩ := hcut
  obtain ⟨V, hV⟩ : ∃ V : World, wc = V := ⟨_, rfl⟩
  rw [hV] at hbc ⊢
  clear hV c0 c1 l0 hCE
  have hCV := hC.bel hbc
  have hLV := hL1.bel hbc
  have hbV := tr hw1 hbc hw1.size
  have hYV := HY.out.bel hbc
  have hsV := HSA.out.bel hbc
  have HXV := hide (HXB.out.bel hbc)
  have HUV := hide (HU.out.bel hbc)
  have HTV := hide (HT.out.bel hbc)
  have hpV : p < V.heap.size := hCV.lt
  have hlV : w.heap.size + 1 + 1 < V.heap.size := hYV.lt
  clear hbc hC hL1 HY HSA HXB HU HT HLE hw1 hX1 hpl hpl2 hll
  have hm1 : ∀ W, (Instr.makeSlice 22 (.int .i64 (samples.length : Int)) (.int .i64 (samples.length : Int))).run Tryd.prog W = .ok (.slice (some ⟨W.heap.size, 0, none⟩) samples.length samples.length) (W.alloc (.cells (gs (List.replicate samples.length (0, 0))).toArray 47)) := fun W => by
    have h1 := run_make_rowN (P := Tryd.prog) 22 47 i0 _ Tryd.underlying22 hi iz0 .i64 .i64 samples.length samples.length (Nat.le_refl _) (by rw [iz2]; omega) (by omega) W
    have h2 := madeCells_g samples.length
    rw [iz1] at h1
    rw [h1]
    congr 3
    rw [← h2]
  have c0 := hCV.cell 0
  have c1 := hCV.cell 1
  have c2 := hCV.cell 2
  simp only [List.getElem?_cons_zero, List.getElem?_cons_succ] at c0 c1 c2
  go_upto_region 7 with fail
  obtain ⟨g, hg⟩ : ∃ g, V.heap.size = g := ⟨_, rfl⟩
  have hG0 : Blk ((V.alloc (.cells (gs (List.replicate samples.length (0, 0))).toArray 47)).alloc (.cells #[.slice (some ⟨V.heap.size, 0, none⟩) samples.length samples.length] 22)) V.heap.size 47 (gs (List.replicate samples.length (0, 0))) := (Blk.new V _ _).bel (alloc_bel _ _)
  have h80 := Blk.two V 47 22 (gs (List.replicate samples.length (0, 0))) [.slice (some ⟨V.heap.size, 0, none⟩) samples.length samples.length]
  have hB0 : Below V.heap.size V ((V.alloc (.cells (gs (List.replicate samples.length (0, 0))).toArray 47)).alloc (.cells #[.slice (some ⟨V.heap.size, 0, none⟩) samples.length samples.length] 22)) := (alloc_bel _ _).alloc (by simp) _
  obtain ⟨X, hX⟩ : ∃ X, (V.alloc (.cells (gs (List.replicate samples.length (0, 0))).toArray 47)).alloc (.cells #[.slice (some ⟨V.heap.size, 0, none⟩) samples.length samples.length] 22) = X := ⟨_, rfl⟩
  rw [hX] at hG0 h80 hB0 ⊢
  rw [hg] at hG0 h80 hB0 hpV hlV ⊢
  have HgV := hide hg
  clear hX hm1 hg c0 c1 c2
  have hDL := doneL_length samples lines (fun _ => false)
  go_loopw [50] (fun i wr => ∃ k : Nat, k ≤ samples.length ∧ i = .int .i64 k ∧ Below g V wr ∧ Blk wr g 47 (gs ((doneL samples lines (fun _ => false)).take k ++ List.replicate (samples.length - k) (0, 0))) ∧ Blk wr (g + 1) 22 [.slice (some ⟨g, 0, none⟩) samples.length samples.length]) (fun i _ => samples.length - (intOf i).toNat)
  case atStart => exact ⟨0, Nat.zero_le _, rfl, hB0, by simpa using hG0, h80⟩
  case round =>
    clear hG0 h80 hB0
    obtain ⟨k, hk, rfl, hbr, hGr, h8⟩ := hrel
    have hbrV : Below V.heap.size V wr := by rw [HgV.out]; exact hbr
    by_cases hlt : k < samples.length
    · obtain ⟨bA, oA, rfl, hbA, s0, s1⟩ := (hsV.bel hbrV).g_at hlt
      have hsm := HSB.out _ (List.getElem_mem hlt)
      have hz0 := rest_zero samples lines k
      rw [show samples.getD k (0, 0) = samples[k] by simp [List.getD, hlt]] at hz0
      have hLn : ((doneL samples lines (fun _ => false)).take k ++ List.replicate (samples.length - k) (0, 0)).length = samples.length := by simp [hDL]; omega
      have hLS : Hid (((doneL samples lines (fun _ => false)).take k ++ List.replicate (samples.length - k) (0, 0)).set k (4 * samples[k].1, 4 * samples[k].2) = (doneL samples lines (fun _ => false)).take (k + 1) ++ List.replicate (samples.length - (k + 1)) (0, 0)) := by
        show _ = _
        have e : samples.length - k = (samples.length - (k + 1)) + 1 := by omega
        have hkD : k < (doneL samples lines (fun _ => false)).length := by omega
        rw [List.set_append_right _ _ (by simp [hDL]; omega), List.take_succ_eq_append_getElem hkD, e, List.replicate_succ]
        have e2 : k - ((doneL samples lines (fun _ => false)).take k).length = 0 := by simp [hDL]; omega
        rw [e2, List.set_cons_zero, List.append_assoc]
        have e3 : (doneL samples lines (fun _ => false))[k] = (4 * samples[k].1, 4 * samples[k].2) := by
          rw [← hz0]; simp [doneL, doneG]
        rw [e3]; rfl
      clear hz0
      generalize samples[k] = smp at s0 s1 hsm hLS
      obtain ⟨sa, sb⟩ := smp
      obtain ⟨m1, m2, m3, m4⟩ := hsm
      dsimp only at s0 s1 hLS m1 m2 m3 m4
      generalize (doneL samples lines (fun _ => false)).take k ++ List.replicate (samples.length - k) (0, 0) = L at hGr hLn hLS
      obtain ⟨gk, hgk⟩ : ∃ gk, L[k]? = some gk := ⟨_, List.getElem?_eq_getElem (by omega)⟩
      have hG2 := hGr.bel (alloc_bel wr (.cells #[.int .i64 sa, .int .i64 sb] 47))
      have h82 := h8.bel (alloc_bel wr (.cells #[.int .i64 sa, .int .i64 sb] 47))
      have hbr2 : Below g V (wr.alloc (.cells #[.int .i64 sa, .int .i64 sb] 47)) := hbr.alloc (by have := hGr.lt; omega) _
      obtain ⟨y0, y1⟩ := hG2.g_at hgk
      have q0 := hG2.frozen (k * 2)
      have q1 := hG2.frozen (k * 2 + 1)
      have z0 := h8.cell 0
      simp only [List.getElem?_cons_zero] at z0
      have hset := hide (hG2.setG (k := k) (g := (4 * sa, 4 * sb)) (by omega))
      have h8f := hide ((h82.far (p := ⟨g, k * 2, none⟩) (by show g + 1 ≠ g; omega) (.int .i64 (4 * sa))).far (p := ⟨g, k * 2 + 1, none⟩) (by show g + 1 ≠ g; omega) (.int .i64 (4 * sb)))
      have hbf := hide ((hbr2.setCell (p := ⟨g, k * 2, none⟩) (Nat.le_refl _) (.int .i64 (4 * sa))).setCell (p := ⟨g, k * 2 + 1, none⟩) (Nat.le_refl _) (.int .i64 (4 * sb)))
      have hLnH := hide hLn
      have hgl := h8.lt
      have ix2 : IntKind.i64.wrap (4 * sa) = 4 * sa := by simp (disch := omega) only [IntWalk.i64_in]
      have ix3 : IntKind.i64.wrap (4 * sb) = 4 * sb := by simp (disch := omega) only [IntWalk.i64_in]
      have ix4 : (0 : Int) ≤ (k : Int) := by omega
      have ix5 : (k : Int) < (samples.length : Int) := by omega
      clear hLn hgk hGr h8 hG2 h82 hbr hbr2 hbrV hbA hDL
      go_wp2
      go_roundw
      case rel => exact ⟨k + 1, by omega, by go_num, hbf.out, by rw [← hLS.out]; exact hset.out, h8f.out⟩
      case measure => simp [intOf]; omega
    · obtain rfl : k = samples.length := by omega
      rw [Nat.sub_self, List.replicate_zero, List.append_nil, List.take_of_length_le (by omega)] at hGr
      have hCr := hCV.bel hbrV
      have c0 := hCr.cell 0
      have c1 := hCr.cell 1
      have c2 := hCr.cell 2
      have c3 := hCr.cell 3
      have c4 := hCr.cell 4
      simp only [List.getElem?_cons_zero, List.getElem?_cons_succ] at c0 c1 c2 c3 c4
      have hLr := hLV.bel hbrV
      have hYr := hYV.bel hbrV
      have hsr := hsV.bel hbrV
      have hbwr := tr hbV hbrV hbV.size
      have hgw : w.heap.size + 1 + 1 < g ∧ p < g := by have := HgV.out; omega
      have HSV2 := hide hsV
      have HUV2 := hide HUV.out.1
      have HgV2 := HgV
      have hbrV2 := hbrV
      have HgS : Hid (g < wr.heap.size) := hGr.lt
      clear hCV hLV hYV hsV hsr hbV HUV hbr hbrV HgV hpV hlV hlt hk
      go_wp2_with (first | (go_at_call 42; refine (blocks_c gain limit A G U samples.length cA gaps.length c samples.length cU _).mono ?_; rintro e W2 ⟨rfl, hBn, hb2⟩))
      clear c0 c1 c2 c3 c4
      have hrw := hb2.size
      have hBnl := hBn.lt
      have hG2 := hGr.bel hb2
      have h82 := h8.bel hb2
      have hL2 := hLr.bel hb2
      have hC2 := hCr.bel hb2
      have hY2 := hYr.bel hb2
      have hbw2 := tr hbwr hb2 hbwr.size
      have hgl := h8.lt
      have hul : (usableL limit samples gaps).length = samples.length := by simp [usableL]
      have H4 := hide (lines_four HG2.out)
      have HLI := hide (lines_in HG2.out)
      obtain ⟨us, hus⟩ : ∃ us, usableL limit samples gaps = us := ⟨_, rfl⟩
      rw [hus] at HUV2 hul
      have HUS := hide hus
      clear hus
      obtain ⟨S, hS⟩ : ∃ S : Nat → Prop, ∀ j, S j ↔ j < W2.heap.size ∧ j ≠ g := ⟨fun j => j < W2.heap.size ∧ j ≠ g, fun _ => Iff.rfl⟩
      have HSV : Hid (∀ j, j < V.heap.size → S j) := fun j hj => (hS j).2 ⟨by rw [HgV2.out] at hj; omega, by rw [HgV2.out] at hj; omega⟩
      have hbV2 : Below V.heap.size V W2 := bel_tr hbrV2 hbrV2.size hb2
      refine wpIn_wide.1 (range_law3 (n := 5) (α := Nat) (fun a j a₁ W => ∃ (bb : Nat) (v0 v1 v2 v3 : Value), a₁ = { tmps := (((a.tmps.set! 68 (.int .i64 (4 * (j : Int)))).set! 69 (.agg #[v0, v1, v2, v3])).set! 11 (.int .i64 (4 * (j : Int)))).set! 12 (.pointer (some ⟨bb, 0, none⟩)), defers := [] } ∧ W2.heap.size ≤ bb ∧ Blk W bb 92 [v0, v1, v2, v3] ∧ CI v0 (samples.getD (4 * j) (0, 0)) ∧ CI v1 (samples.getD (4 * j + 1) (0, 0)) ∧ CI v2 (samples.getD (4 * j + 2) (0, 0)) ∧ CI v3 (samples.getD (4 * j + 3) (0, 0)))
        rfl Tryd.call69 (blocks_iter 4 wr.heap.size (by omega) gain limit A G U cA c cU gaps.length samples us S ((hS _).2 ⟨by omega, by omega⟩) (Rd.inS HSV2.out (by intro e2; have := congrArg List.length e2; rw [gs_length] at this; simp at this; omega) HSV.out) (Rd.inS HUV2.out (by intro e2; have := congrArg List.length e2; rw [bls_length, List.length_nil] at this; omega) HSV.out) W2 hBn (HSV2.out.bel hbV2) (HUV2.out.bel hbV2) hul (by omega) HSB.out)
        (fun j hj => ((hS j).1 hj).1) (fun x args W h => by obtain ⟨_, _, _, _, rfl, _⟩ := h; rfl)
        (fun pre W => Blk W g 47 (gs (doneL samples lines fun i => decide (i / 4 ∈ pre))) ∧ Keep S W2 W)
        (fun pre W W' ⟨h1, h2⟩ hb => ⟨h1.bel hb, h2.trans (Keep.of_below hb fun j hj => by have h3 := h2.size; have := ((hS j).1 hj).1; omega)⟩)
        (fun pre W l' o o' ⟨h1, h2⟩ hB hl' ho => ⟨(World.putObj_heap_other (by omega)).trans h1, h2.trans (Keep.putObj _ _ _ fun hj => by have := ((hS l').1 hj).1; omega)⟩)
        ⟨by simpa using hG2, Keep.refl _ _⟩
        ?hZ ?assign ?body ?done)
      case hZ =>
        rintro j a W l' o o' ⟨bb, v0, v1, v2, v3, h1, h2, h3, h4⟩ hl' ho hc
        exact ⟨bb, v0, v1, v2, v3, h1, h2, (World.putObj_heap_other (fun e => by subst e; rw [show W.heap[bb]? = _ from h3] at ho; cases ho; cases hc)).trans h3, h4⟩
      case assign =>
        rintro l' j args W K ⟨v0, v1, v2, v3, rfl, q0, q1, q2, q3⟩ hge hK
        obtain ⟨x0, y0, rfl, fx0, fy0⟩ := q0
        obtain ⟨x1, y1, rfl, fx1, fy1⟩ := q1
        obtain ⟨x2, y2, rfl, fx2, fy2⟩ := q2
        obtain ⟨x3, y3, rfl, fx3, fy3⟩ := q3
        gi_wp2
        exact hK _ _ ((Below.refl _ _).alloc (Nat.le_refl _) _) ⟨W.heap.size, .complex .f64 x0 y0, .complex .f64 x1 y1, .complex .f64 x2 y2, .complex .f64 x3 y3, rfl, hge, Blk.new W _ [_, _, _, _], ⟨x0, y0, rfl, fx0, fy0⟩, ⟨x1, y1, rfl, fx1, fy1⟩, ⟨x2, y2, rfl, fx2, fy2⟩, ⟨x3, y3, rfl, fx3, fy3⟩⟩
      case body =>
        rintro l' pre j rest a₁ W' hxs ⟨hQW, hkp⟩ ⟨bb, v0, v1, v2, v3, rfl, hbb, hB4, q0, q1, q2, q3⟩ hge
        have hjm := (mem_blockNs.1 (show j ∈ blockNs us (samples.length / 4) by rw [hxs]; simp)).1
        have hTW : Tab W' := ⟨by have := HTV.out.1; have := hbV2.size; have := hkp.size; omega, fun i hi => (hkp.cell (p := ⟨0, i, none⟩) (HSV.out 0 HTV.out.1)).trans ((HTV.out.bel hbV2).2 i hi)⟩
        have hXW := Rd.keepV HXV.out hbV2 HSV.out hkp
        have h8W : Blk W' (g + 1) 22 [.slice (some ⟨g, 0, none⟩) samples.length samples.length] := (hkp.block (g + 1) ((hS _).2 ⟨by omega, by omega⟩)).trans h82
        have hLW : Blk W' (w.heap.size + 1) 23 [.slice B lines.length cB] := (hkp.block (w.heap.size + 1) ((hS _).2 ⟨by omega, by omega⟩)).trans hL2
        have HWO := hide (fun W h1 h2 => without_c v0 v1 v2 v3 _ _ _ _ lines B cB W h1 q0 q1 q2 q3 (gle_getD (by omega) HSB.out _) (gle_getD (by omega) HSB.out _) (gle_getD (by omega) HSB.out _) (gle_getD (by omega) HSB.out _) h2 H4.out HLI.out)
        have hbbl := hB4.lt
        obtain ⟨x0, y0, rfl, _, _⟩ := q0
        obtain ⟨x1, y1, rfl, _, _⟩ := q1
        obtain ⟨x2, y2, rfl, _, _⟩ := q2
        obtain ⟨x3, y3, rfl, _, _⟩ := q3
        have hll := hLW.lt
        have c0 := hB4.cell 0; have c1 := hB4.cell 1; have c2 := hB4.cell 2; have c3 := hB4.cell 3; simp only [List.getElem?_cons_zero, List.getElem?_cons_succ] at c0 c1 c2 c3
        have l0 := hLW.cell 0
        simp only [List.getElem?_cons_zero] at l0
        have HPR := hide hxs
        have HTW := hide hTW
        have HXW := hide hXW
        have HLW := hide hLW
        clear hxs hTW hXW hLW
        simp only [Array.set!_eq_setIfInBounds, List.setIfInBounds_toArray, List.set_cons_zero, List.set_cons_succ]
        gi_wp2_with (first | (refine ⟨trivial, ?_⟩; gi_at_call 43; refine (CallsIn.mono (CallsIn.inRound l' (callsIn_wide.2 (HWO.out _ HTW.out HXW.out))) ?_); rintro e w4 ⟨⟨us4, hul4, rfl, hus4⟩, hb4⟩))
        obtain ⟨u0, u1, u2, u3, rfl⟩ : ∃ u0 u1 u2 u3, us4 = [u0, u1, u2, u3] := by
          match us4, hul4 with
          | [u0, u1, u2, u3], _ => exact ⟨u0, u1, u2, u3, rfl⟩
        have HIX : Hid (∀ m : Nat, m < 4 → ∃ u, (∀ W, Sem.run Tryd.prog (Instr.index 92 (.agg #[u0, u1, u2, u3]) (.int .i64 (m : Int))) W = .ok u W) ∧ CI u (restN (blk4 samples j) lines m lines.length)) := fun m hm => by
          obtain ⟨u, hu1, hu2⟩ := hus4 m hm
          refine ⟨u, fun W => ?_, hu2⟩
          have e : m = 0 ∨ m = 1 ∨ m = 2 ∨ m = 3 := by omega
          rcases e with rfl | rfl | rfl | rfl <;> (simp only [List.getElem?_cons_zero, List.getElem?_cons_succ, Option.some.injEq] at hu1; subst hu1; simp [Instr.index, go_sem])
        clear hus4 HWO hul4 c0 c1 c2 c3 l0
        have hQ4 := hQW.bel hb4
        have hk4 : Keep S W' w4 := Keep.of_below hb4 fun i hi => by have := ((hS i).1 hi).1; have := hkp.size; omega
        have hko4 := others_of_below hb4
        have hgW := h8W.lt
        gi_loopw [73] (fun i wx => ∃ m : Nat, m ≤ 4 ∧ i = .int .i64 m ∧ KeepsOthers W' wx ∧ Keep S W' wx ∧ Blk wx g 47 (gs (doneL samples lines fun i => inBl pre j m i))) (fun i _ => 4 - (intOf i).toNat)
        case atStart => exact ⟨0, Nat.zero_le _, rfl, hko4, hk4, by rw [inBl_zero]; exact hQ4⟩
        case round =>
          clear hko4 hk4 hQ4 hB4 hb4
          obtain ⟨m, hm, rfl, hko, hkx, hQx⟩ := hrel
          have h8x : Blk wr (g + 1) 22 [.slice (some ⟨g, 0, none⟩) samples.length samples.length] := (hkx.block (g + 1) ((hS _).2 ⟨by omega, by omega⟩)).trans h8W
          by_cases hlt4 : m < 4
          · obtain ⟨u, hix, hu⟩ := HIX.out m hlt4
            have hin : 4 * j + m < samples.length := by omega
            have hgr := gle_rest (L := blk4 samples j) (fun q => gle_blk4 (by omega) HSB.out j q) lines m lines.length
            have hst := done_step lines pre hlt4 hin
            have hgk := doneL_at lines (fun i => inBl pre j m i) hin
            have hdl := doneL_length samples lines (fun i => inBl pre j m i)
            generalize restN (blk4 samples j) lines m lines.length = rr at hu hgr hst
            obtain ⟨ra, rb⟩ := rr
            have h4 := H4.out
            obtain ⟨e1, e2, e3, e4⟩ := hgr
            dsimp only at e1 e2 e3 e4
            have HGA := hide (fun W => gauss_c u ra rb hu W (by omega) (by omega))
            have HST := hide hst
            generalize (doneL samples lines fun i => inBl pre j m i) = LD at hQx hgk hdl HST
            generalize doneG samples lines (fun i => inBl pre j m i) (4 * j + m) = gk at hgk
            obtain ⟨y0, y1⟩ := hQx.g_at hgk
            have f0 := hQx.frozen ((4 * j + m) * 2)
            have f1 := hQx.frozen ((4 * j + m) * 2 + 1)
            have z0 := h8x.cell 0
            simp only [List.getElem?_cons_zero] at z0
            have hgx := h8x.lt
            have HQX := hide hQx
            have H8X := hide h8x
            have HKO := hide hko
            have HKX := hide hkx
            have HDL := hide hdl
            have HGK := hide hgk
            have ix2 : (0 : Int) ≤ 4 * (j : Int) + (m : Int) := by omega
            have ix3 : 4 * (j : Int) + (m : Int) < (samples.length : Int) := by omega
            have ix4 : (4 * (j : Int) + (m : Int)).toNat = 4 * j + m := by omega
            have ix5 : IntKind.i64.wrap (4 * (j : Int) + (m : Int)) = 4 * (j : Int) + (m : Int) := by simp (disch := omega) only [IntWalk.i64_in]
            clear hst hgk hdl hQx h8x hko hkx e1 e2 e3 e4 hin hu
            have hfol : Tryd.prog.follows .mixedOrders = true := by kernel_rfl
            --<RB
            gi_wp2
            gi_region_with_o (first
              | (refine ⟨trivial, ?_⟩; gi_at_call 44; refine (CallsIn.mono (CallsIn.inRound l' (callsIn_wide.2 (HGA.out _))) ?_); rintro e w5 ⟨rfl, hb5⟩; have hQ5 : Blk w5 g 47 (gs LD) := (by first | exact Blk.bel (w := wr.drew) HQX.out hb5 | exact HQX.out.bel hb5); have h85 : Blk w5 (g + 1) 22 [.slice (some ⟨g, 0, none⟩) samples.length samples.length] := (by first | exact Blk.bel (w := wr.drew) H8X.out hb5 | exact H8X.out.bel hb5); have z5 := h85.cell 0; simp only [List.getElem?_cons_zero] at z5; obtain ⟨yy, yz⟩ := hQ5.g_at HGK.out; have g0 := hQ5.frozen ((4 * j + m) * 2); have g1 := hQ5.frozen ((4 * j + m) * 2 + 1)))
            all_goals
              have hB5 : Below wr.heap.size wr w5 := (by first | exact ((Below.refl wr.heap.size wr).drew.trans hb5) | exact hb5)
              have hsq := hQ5.setG (k := 4 * j + m) (g := (ra, rb)) (by rw [HDL.out]; omega)
              rw [HST.out] at hsq
              gi_wp2
              go_roundw
              case rel =>
                exact ⟨m + 1, by omega, by go_num, (HKO.out.trans (others_of_below hB5)).trans ((KeepsOthers.setCell _ _ _).trans (KeepsOthers.setCell _ _ _)),
                  (HKX.out.trans (Keep.of_below hB5 fun i hi => by have := ((hS i).1 hi).1; have := hkp.size; have := HKX.out.size; omega)).trans ((Keep.setCell _ _ _ fun hi => ((hS _).1 hi).2 rfl).trans (Keep.setCell _ _ _ fun hi => ((hS _).1 hi).2 rfl)), hsq⟩
              case measure => simp [intOf]; omega
            -->RB
          · obtain rfl : m = 4 := by omega
            gi_wp2
            exact ⟨hko, hkx, by rw [inBl_four] at hQx; exact hQx, hkp.trans hkx⟩
      case done =>
        rintro D W' hD ⟨hQW, hkp⟩ hK
        rw [done_all samples lines hul] at hQW
        have hSb : ∀ k, k < g → S k := fun k hk => (hS k).2 ⟨by omega, by omega⟩
        have h8W : Blk W' (g + 1) 22 [.slice (some ⟨g, 0, none⟩) samples.length samples.length] := (hkp.block (g + 1) ((hS _).2 ⟨by omega, by omega⟩)).trans h82
        have hYW : Blk W' (w.heap.size + 1 + 1) 25 [.int .i64 0, .int .i64 0, .slice none 0 0, .slice none 0 0] := (hkp.block _ (hSb _ hgw.1)).trans hY2
        have hCW : Blk W' p 81 [.int .i64 gain, .int .i64 limit, .slice A samples.length cA, .slice G gaps.length c, .slice U samples.length cU] := (hkp.block _ (hSb _ hgw.2)).trans hC2
        have hUW := Rd.keepV HUV2.out hbV2 HSV.out hkp
        have HIN := hide (fun W h => indexes_c gain limit A G U samples.length gaps.length cA c cU us false W h (by omega))
        rw [hul] at HIN
        have hbW : Below w.heap.size w W' := hbw2.trans ⟨hkp.os, hkp.tape, hkp.output, hkp.size, fun k hk => hkp.block k (hSb k (by omega))⟩
        have hYl := hYW.lt
        have hCl := hCW.lt
        have h8l := h8W.lt
        have c0 := hCW.cell 0
        have c1 := hCW.cell 1
        have c2 := hCW.cell 2
        have c3 := hCW.cell 3
        have c4 := hCW.cell 4
        have z0 := h8W.cell 0
        have y0 := hYW.cell 0
        have y1 := hYW.cell 1
        have y2 := hYW.cell 2
        have y3 := hYW.cell 3
        simp only [List.getElem?_cons_zero, List.getElem?_cons_succ] at c0 c1 c2 c3 c4 z0 y0 y1 y2 y3
        have ix0 : IntKind.i64.wrap (gain - 2) = gain - 2 := by simp (disch := omega) only [IntWalk.i64_in]
        have ix1 : IntKind.i64.wrap (20 * limit) = 20 * limit := by simp (disch := omega) only [IntWalk.i64_in]
        have np : p ≠ w.heap.size + 1 + 1 := by omega
        have ng : g + 1 ≠ w.heap.size + 1 + 1 := by omega
        have ng2 : ¬ g = w.heap.size + 1 := by omega
        have hmk : ({ target := .collected D, args := #[] } :: [] : List Deferred) = marked [D] := rfl
        have HK := hide hK
        have HQW := hide hQW
        have HYW := hide hYW
        have HUW := hide hUW
        clear hK hQW hYW hUW h8W hCW hkp hG2 h82 hL2 hY2 hC2
        dsimp only
        rw [hmk]
        go_wp2
        go_region_held3 (fun w' => (∀ b o, b < W'.heap.size → b ≠ w.heap.size + 1 + 1 → w'.cell? ⟨b, o, none⟩ = W'.cell? ⟨b, o, none⟩) ∧ Keep (But W' (w.heap.size + 1 + 1)) W' w')
          ((refine kpq ?_; (repeat' (first | with_reducible exact Keep.refl _ _ | with_reducible exact But.below HB6.out | with_reducible exact But.below ((Below.refl _ _).drew) | with_reducible refine But.put ?_ _))))
          (first
            | (go_at_call 45; refine (HIN.out _ (HUW.out.bel (by (repeat' (first | with_reducible exact Below.refl _ _ | with_reducible refine Below.drew ?_ | with_reducible refine bel_alloc ?_ ?_ _)); all_goals (first | omega | (simp <;> omega))))).mono ?_; rintro e w6 ⟨⟨A6, d6, rfl, hr6⟩, hb6⟩; have HB6 : Hid (Below W'.heap.size W' w6) := (by refine bel_tr ?_ ?_ hb6; (repeat' (first | with_reducible exact Below.refl _ _ | with_reducible refine Below.drew ?_ | with_reducible refine bel_alloc ?_ ?_ _)); all_goals (first | omega | (simp <;> omega))); have s6 := HB6.out.size; have B6 := HYW.out.bel HB6.out; have f0 := B6.frozen 0; have f1 := B6.frozen 1; have f2 := B6.frozen 2; have f3 := B6.frozen 3; have t0 := B6.cell 0; have t1 := B6.cell 1; have t2 := B6.cell 2; have t3 := B6.cell 3; simp only [List.getElem?_cons_zero, List.getElem?_cons_succ] at t0 t1 t2 t3))
        all_goals
          go_wp2
          have hE := B6.set4 (.int .i64 (gain - 2)) (.int .i64 (20 * limit)) (.slice (some ⟨g, 0, none⟩) samples.length samples.length) (.slice A6 (idxL us false samples.length).length d6)
          have hRE := hr6.set4 B6 (by decide) (.int .i64 (gain - 2)) (.int .i64 (20 * limit)) (.slice (some ⟨g, 0, none⟩) samples.length samples.length) (.slice A6 (idxL us false samples.length).length d6)
          have hQE := ((HQW.out.bel HB6.out).rdT (List.prefix_refl _)).set4 B6 (by decide) (.int .i64 (gain - 2)) (.int .i64 (20 * limit)) (.slice (some ⟨g, 0, none⟩) samples.length samples.length) (.slice A6 (idxL us false samples.length).length d6)
          have hb6w := bel_tr hbW hbW.size HB6.out
          have hqw : w.heap.size ≤ w.heap.size + 1 + 1 := by omega
          have hBE := (((hb6w.setCell (p := ⟨w.heap.size + 1 + 1, 0, none⟩) hqw (.int .i64 (gain - 2))).setCell (p := ⟨w.heap.size + 1 + 1, 1, none⟩) hqw (.int .i64 (20 * limit))).setCell (p := ⟨w.heap.size + 1 + 1, 2, none⟩) hqw (.slice (some ⟨g, 0, none⟩) samples.length samples.length)).setCell (p := ⟨w.heap.size + 1 + 1, 3, none⟩) hqw (.slice A6 (idxL us false samples.length).length d6)
          have hME : Marks W2.heap.size [D] ((((w6.setCell ⟨w.heap.size + 1 + 1, 0, none⟩ (.int .i64 (gain - 2))).setCell ⟨w.heap.size + 1 + 1, 1, none⟩ (.int .i64 (20 * limit))).setCell ⟨w.heap.size + 1 + 1, 2, none⟩ (.slice (some ⟨g, 0, none⟩) samples.length samples.length)).setCell ⟨w.heap.size + 1 + 1, 3, none⟩ (.slice A6 (idxL us false samples.length).length d6)) := ⟨by simp, fun E hE => by
            obtain rfl : E = D := by simpa using hE
            have hDl := (Array.getElem?_eq_some_iff.1 HK.out).1
            have hne : ∀ i, E ≠ (⟨w.heap.size + 1 + 1, i, none⟩ : Addr).block := fun i => by show E ≠ w.heap.size + 1 + 1; omega
            refine ⟨hD, ?_⟩
            rw [Below.heap_setCell _ _ _ _ (hne 3), Below.heap_setCell _ _ _ _ (hne 2), Below.heap_setCell _ _ _ _ (hne 1), Below.heap_setCell _ _ _ _ (hne 0)]
            exact (HB6.out.block E hDl).trans HK.out⟩
          generalize (((w6.setCell ⟨w.heap.size + 1 + 1, 0, none⟩ (.int .i64 (gain - 2))).setCell ⟨w.heap.size + 1 + 1, 1, none⟩ (.int .i64 (20 * limit))).setCell ⟨w.heap.size + 1 + 1, 2, none⟩ (.slice (some ⟨g, 0, none⟩) samples.length samples.length)).setCell ⟨w.heap.size + 1 + 1, 3, none⟩ (.slice A6 (idxL us false samples.length).length d6) = WE at hE hRE hQE hBE hME ⊢
          refine leaves_marks (B := W2.heap.size) (J := fun W => Below w.heap.size w W ∧ Blk W (w.heap.size + 1 + 1) 25 [.int .i64 (gain - 2), .int .i64 (20 * limit), .slice (some ⟨g, 0, none⟩) samples.length samples.length, .slice A6 (idxL us false samples.length).length d6] ∧ RdT W 47 (some ⟨g, 0, none⟩) (gs (cleanL samples us lines samples.length)) ∧ RdT W 3 A6 (ints (idxL us false samples.length))) ?_ ?_ [D] WE hME ⟨hBE, hE, hQE, hRE⟩
          · rintro W D o o' ⟨h1, h2, h3, h4⟩ hD ho hc
            exact ⟨⟨h1.os, h1.tape, h1.output, by simpa using h1.size, fun k hk => (World.putObj_heap_other (by omega)).trans (h1.block k hk)⟩, (World.putObj_heap_other (by omega)).trans h2, h3.putObj _ ho hc, h4.putObj _ ho hc⟩
          · rintro W ⟨h1, h2, h3, h4⟩
            have g0 := h2.cell 0
            have g1 := h2.cell 1
            have g2 := h2.cell 2
            have g3 := h2.cell 3
            simp only [List.getElem?_cons_zero, List.getElem?_cons_succ] at g0 g1 g2 g3
            refine ⟨.tuple #[.agg #[.int .i64 (gain - 2), .int .i64 (20 * limit), .slice (some ⟨g, 0, none⟩) samples.length samples.length, .slice A6 (idxL us false samples.length).length d6], .int .i64 0], by simp [results, Tryd.results8, go_sem, g0, g1, g2, g3]; try rfl, ?_⟩
            rw [HUS.out]
            exact ⟨⟨_, _, _, _, rfl, h3, h4⟩, h1⟩
end Go.Proofs.YtnigmdkhecblnaaDoor
