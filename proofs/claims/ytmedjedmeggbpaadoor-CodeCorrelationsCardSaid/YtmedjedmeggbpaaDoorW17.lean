/- Contracts: the line of a valid frame with a wave. -/
import Derived.Test.YtmedjedmeggbpaaDoorW16
namespace Go.Proofs.YtmedjedmeggbpaaDoor
open Go.RowKit
set_option maxRecDepth 100000

theorem compressed_ok (gain limit : Int) (A G B : Option Addr) (cA c cB : Nat) (samples wave : List (Int × Int)) (gaps : List Int) (w : World) (hT : Tab w) (hs : Rd w A (gs samples)) (hr : Rd w G (ints gaps)) (hv : Rd w B (gs wave)) (hn : samples.length ≤ 1000) (hg : gaps.length ≤ 1000) (hw : wave.length ≤ 1000)
    (hE : compE gain limit samples gaps wave = 0) :
    Calls Tryd.prog 60 #[.agg #[.int .i64 gain, .int .i64 limit, .slice A samples.length cA, .slice G gaps.length c], .slice B wave.length cB] w fun r w' =>
      (∃ V M : Option Addr, r = .returned (.tuple #[.agg #[.slice V (samples.length - wave.length + 1) (samples.length - wave.length + 1), .slice M (samples.length - wave.length + 1) (samples.length - wave.length + 1)], .int .i64 0]) ∧
        Rd w' V (gs (compV (usableL limit samples gaps) samples wave (samples.length - wave.length + 1))) ∧ Rd w' M (ints (compMs (usableL limit samples gaps) wave (samples.length - wave.length + 1)))) ∧ Below w.heap.size w w' := by
  obtain ⟨hF0, hW0, hle⟩ := compE_zero hE
  obtain ⟨hw1, hw2, hpow⟩ := waveErr_zero hW0
  obtain ⟨hh, hsamp, _⟩ := frameE_zero hF0
  have HPW := hide hpow
  have HSM : Hid (∀ g ∈ samples, gle 2000000 g) := by
    obtain ⟨_, _, l1, l2, _, _⟩ := headE_zero hh
    intro g hgm
    have := hsamp g hgm
    simp only [gle]
    omega
  obtain ⟨N, hN⟩ : ∃ N, samples.length - wave.length + 1 = N := ⟨_, rfl⟩
  rw [hN]
  have e1 : (compE gain limit samples gaps wave != 0) = false := by simpa using hE
  have HE := hide hE
  have HF0 := hide hF0
  clear hE hpow hsamp hh hW0 hF0
  go_enter Tryd.func60, Tryd.ntmps60
  go_upto_region 1 with fail
  obtain ⟨W, hW⟩ : ∃ W, (w.alloc (.cells #[.int .i64 gain, .int .i64 limit, .slice A samples.length cA, .slice G gaps.length c] 81)).alloc (.cells #[.slice none 0 0, .slice none 0 0] 89) = W := ⟨_, rfl⟩
  have hsz : W.heap.size = w.heap.size + 2 := by rw [← hW]; simp
  have hB : Below w.heap.size w W := by rw [← hW]; exact ((Below.refl _ _).alloc (Nat.le_refl _) _).alloc (by simp) _
  have hX : Blk W w.heap.size 81 [.int .i64 gain, .int .i64 limit, .slice A samples.length cA, .slice G gaps.length c] := by
    rw [← hW]
    refine Blk.below (B := w.heap.size + 1) (Blk.new w _ [_, _, _, _]) ?_ (by omega)
    exact (Below.refl _ _).alloc (by simp) _
  have hR : Blk W (w.heap.size + 1) 89 [.slice none 0 0, .slice none 0 0] := by
    rw [← hW]
    have h0 := Blk.new (w.alloc (.cells #[.int .i64 gain, .int .i64 limit, .slice A samples.length cA, .slice G gaps.length c] 81)) 89 [.slice none 0 0, .slice none 0 0]
    rw [show (w.alloc (.cells #[.int .i64 gain, .int .i64 limit, .slice A samples.length cA, .slice G gaps.length c] 81)).heap.size = w.heap.size + 1 from by simp] at h0
    exact h0
  rw [hW]
  clear hW
  obtain ⟨p, hp⟩ : ∃ p, w.heap.size + 1 = p := ⟨_, rfl⟩
  rw [hp] at hR ⊢
  have c0 := hX.cell 0
  have c1 := hX.cell 1
  have c2 := hX.cell 2
  have c3 := hX.cell 3
  simp only [List.getElem?_cons_zero, List.getElem?_cons_succ] at c0 c1 c2 c3
  go_upto_region 2 with (first | (go_at_call 114; refine (checked_ok gain limit A G cA c samples gaps _ (hs.bel hB) (hr.bel hB) hn hg HF0.out).mono ?_; rintro e w1 ⟨⟨U, cU, rfl, hU⟩, hb1⟩))
  generalize hV : w1.alloc (.cells #[.int .i64 gain, .int .i64 limit, .slice A samples.length cA, .slice G gaps.length c, .slice U samples.length cU] 158) = V
  have hBV1 : Below w1.heap.size w1 V := by rw [← hV]; exact (Below.refl _ _).alloc (Nat.le_refl _) _
  have hBV : Below W.heap.size W V := by rw [← hV]; exact hb1.alloc hb1.size _
  have hCV : Blk V w1.heap.size 158 [.int .i64 gain, .int .i64 limit, .slice A samples.length cA, .slice G gaps.length c, .slice U samples.length cU] := by rw [← hV]; exact Blk.new w1 _ [_, _, _, _, _]
  have HS : Hid (V.cell? ⟨w.heap.size, 2, none⟩ = some (.slice A samples.length cA) ∧ Below V.heap.size V V) := ⟨(hBV.cell (p := ⟨w.heap.size, 2, none⟩) (by show w.heap.size < W.heap.size; omega)).trans c2, Below.refl _ _⟩
  have hz0 : V.heap.size ≤ V.drew.heap.size := Nat.le_refl _
  have hwr : Rd V.drew B (gs wave) := (hv.bel hB).bel hBV.drew
  have hTV : Tab V.drew := (hT.bel hB).bel hBV.drew
  have HK := hide hR
  have HUV := hide (hU.bel hBV1)
  have HF : Hid (firstE [0, waveErr wave, errIf (decide (samples.length < wave.length)) 10] = compE gain limit samples gaps wave) := by
    show _ = _
    rw [← HF0.out]; rfl
  clear hV c0 c1 c2 c3 hR hX hU
  go_region_held3 (fun w' => w'.cell? ⟨w.heap.size, 2, none⟩ = some (.slice A samples.length cA) ∧ Below V.heap.size V w')
    (first | exact held_drew HS.out | exact held_bel (held_drew HS.out) hb2 hz0 | exact held_alloc (held_bel (held_drew HS.out) hb2 hz0) (Nat.le_trans hz0 hb2.size) _)
    (first
      | (go_at_call 117; refine (waveError_c wave B cB _ hTV hwr hw).mono ?_; rintro e w2 ⟨rfl, hb2⟩) | (go_at_call 93; refine (errorIf_c _ _ _).mono ?_; rintro e_ w_ ⟨rfl, rfl⟩) | (go_at_call 94; refine (outside_c _ _ _ _).mono ?_; rintro e_ w_ ⟨rfl, rfl⟩) | (go_at_call 92; refine (firstError_3 _ _ _ _).mono ?_; rintro e_ w_ ⟨rfl, rfl⟩))
  have hF := held_alloc (held_bel (held_drew HS.out) hb2 hz0) (Nat.le_trans hz0 hb2.size) (.cells #[.int .i64 0, .int .i64 (waveErr wave), .int .i64 (errIf (decide (samples.length < wave.length)) 10)] 25)
  obtain ⟨V2, hV2⟩ : ∃ V2, w2.alloc (.cells #[.int .i64 0, .int .i64 (waveErr wave), .int .i64 (errIf (decide (samples.length < wave.length)) 10)] 25) = V2 := ⟨_, rfl⟩
  rw [hV2] at hF ⊢
  have hBF := hF.2
  clear hV2 hF
  rw [HF.out]
  have hC2 := hCV.bel hBF
  have m2 := hC2.cell 2
  simp only [List.getElem?_cons_zero, List.getElem?_cons_succ] at m2
  have hNi : (samples.length : Int) - (wave.length : Int) + 1 = (N : Int) := by omega
  have hN1 : N ≤ 1000 := by omega
  have hV2n : V.heap.size ≤ V2.heap.size := hBF.size
  have hcl : w1.heap.size < V2.heap.size := hC2.lt
  have hW2 : Below W.heap.size W V2 := tr hBV hBF hBV.size
  go_upto_region 6 with (first | (go_at_call 118; refine (newLine_c N _ hN1).mono ?_; rintro e w3 ⟨a, b, rfl, hab, ha, hb, hBa, hBb, hb3⟩))
  obtain ⟨V4, hV4⟩ : ∃ V4, w3.alloc (.cells #[.slice (some ⟨a, 0, none⟩) N N, .slice (some ⟨b, 0, none⟩) N N] 89) = V4 := ⟨_, rfl⟩
  rw [hV4]
  have hB34 : Below w3.heap.size w3 V4 := by rw [← hV4]; exact (Below.refl _ _).alloc (Nat.le_refl _) _
  have hB24 : Below V2.heap.size V2 V4 := tr hb3 hB34 hb3.size
  have hL4 : Blk V4 w3.heap.size 89 [.slice (some ⟨a, 0, none⟩) N N, .slice (some ⟨b, 0, none⟩) N N] := by rw [← hV4]; exact Blk.new w3 _ [_, _]
  have hLa : w3.heap.size ≠ a := by have := hBa.lt; omega
  have hLb : w3.heap.size ≠ b := by have := hBb.lt; omega
  have hca : w1.heap.size ≠ a := by omega
  have hcb : w1.heap.size ≠ b := by omega
  have hBa4 := hBa.bel hB34
  have hBb4 := hBb.bel hB34
  obtain ⟨L, hL⟩ : ∃ L, w3.heap.size = L := ⟨_, rfl⟩
  rw [hL] at hL4 hLa hLb ⊢
  have hL2 : V2.heap.size ≤ L := by have := hb3.size; omega
  clear hV4 hBa hBb hB34
  have j0 := hL4.cell 0
  have j1 := hL4.cell 1
  simp only [List.getElem?_cons_zero, List.getElem?_cons_succ] at j0 j1
  go_wp2
  go_loopw [43] (fun i wr => ∃ k : Nat, k ≤ N ∧ i = .int .i64 k ∧ Below V2.heap.size V2 wr ∧ Blk wr L 89 [.slice (some ⟨a, 0, none⟩) N N, .slice (some ⟨b, 0, none⟩) N N] ∧
    Blk wr a 76 (gs (compV (usableL limit samples gaps) samples wave k ++ List.replicate (N - k) (0, 0))) ∧ Blk wr b 3 (ints (compMs (usableL limit samples gaps) wave k ++ List.replicate (N - k) 0))) (fun i _ => N - (intOf i).toNat)
  case atStart => exact ⟨0, by omega, rfl, hB24, hL4, by simpa [compV] using hBa4, by simpa [compMs] using hBb4⟩
  case round =>
    clear j0 j1 hBa4 hBb4 hL4 hB24
    obtain ⟨k, hk, rfl, hbr, hLr, hAr, hMr⟩ := hrel
    have hbw : Below w.heap.size w wr := tr hB (tr hW2 hbr hW2.size) hB.size
    have hVr : Below V.heap.size V wr := tr hBF hbr hBF.size
    by_cases hlt : k < N
    · have hC := hC2.bel hbr
      have hUl : (usableL limit samples gaps).length = samples.length := by simp [usableL]
      have HU := hide (HUV.out.bel hVr)
      have HSR := hide (hs.bel hbw)
      have HVR := hide (hv.bel hbw)
      have HS : Hid (wr.cell? ⟨L, 0, none⟩ = some (.slice (some ⟨a, 0, none⟩) N N) ∧ wr.cell? ⟨L, 1, none⟩ = some (.slice (some ⟨b, 0, none⟩) N N) ∧ wr.cell? ⟨w1.heap.size, 0, none⟩ = some (.int .i64 gain) ∧ wr.cell? ⟨w1.heap.size, 1, none⟩ = some (.int .i64 limit) ∧ wr.cell? ⟨w1.heap.size, 2, none⟩ = some (.slice A samples.length cA) ∧ wr.cell? ⟨w1.heap.size, 3, none⟩ = some (.slice G gaps.length c) ∧ wr.cell? ⟨w1.heap.size, 4, none⟩ = some (.slice U samples.length cU) ∧ Below V2.heap.size V2 wr) := ⟨hLr.cell 0, hLr.cell 1, hC.cell 0, hC.cell 1, hC.cell 2, hC.cell 3, hC.cell 4, hbr⟩
      have hz1 : V2.heap.size ≤ wr.drew.heap.size := hbr.size
      have HVS : Hid (compV (usableL limit samples gaps) samples wave (k + 1) ++ List.replicate (N - (k + 1)) (0, 0) = (compV (usableL limit samples gaps) samples wave k ++ List.replicate (N - k) (0, 0)).set k (compS (usableL limit samples gaps) samples wave k wave.length)) := (set_next _ _ _ _ hlt).symm
      have HMS : Hid (compMs (usableL limit samples gaps) wave (k + 1) ++ List.replicate (N - (k + 1)) 0 = (compMs (usableL limit samples gaps) wave k ++ List.replicate (N - k) 0).set k (compM (usableL limit samples gaps) k wave.length : Int)) := (set_next _ _ _ _ hlt).symm
      have hlV : (compV (usableL limit samples gaps) samples wave k ++ List.replicate (N - k) (0, 0)).length = N := by simp [compV]; omega
      have hlM : (compMs (usableL limit samples gaps) wave k ++ List.replicate (N - k) 0).length = N := by simp [compMs]; omega
      generalize compV (usableL limit samples gaps) samples wave k ++ List.replicate (N - k) (0, 0) = LV at hAr HVS hlV
      generalize compMs (usableL limit samples gaps) wave k ++ List.replicate (N - k) 0 = LM at hMr HMS hlM
      have HCA := hide (compressedAt_c gain limit A G U B cA c cU gaps.length cB samples wave (usableL limit samples gaps) k wr.drew (HSR.out.bel (Below.refl _ _).drew) (HU.out.bel (Below.refl _ _).drew) (HVR.out.bel (Below.refl _ _).drew) hUl (by omega) hn HSM.out HPW.out)
      generalize compS (usableL limit samples gaps) samples wave k wave.length = cs at HCA HVS
      generalize compM (usableL limit samples gaps) k wave.length = cm at HCA HMS
      obtain ⟨sa, sb⟩ := cs
      have HLD : Hid (Blk wr.drew L 89 [.slice (some ⟨a, 0, none⟩) N N, .slice (some ⟨b, 0, none⟩) N N]) := hLr
      have HAD : Hid (Blk wr.drew a 76 (gs LV)) := hAr
      have HMD : Hid (Blk wr.drew b 3 (ints LM)) := hMr
      have ix0 : (0 : Int) ≤ (k : Int) := by omega
      have ix1 : (k : Int) < (N : Int) := by omega
      clear hC hLr hAr hMr HU HSR HVR
      obtain ⟨gk, hgk⟩ : ∃ gk, LV[k]? = some gk := ⟨_, List.getElem?_eq_getElem (by omega)⟩
      obtain ⟨mk, hmk⟩ : ∃ mk, (ints LM)[k]? = some mk := ⟨_, List.getElem?_eq_getElem (by rw [ints_length]; omega)⟩
      go_upto_region 9 with fail
      go_region_held3 (fun w' => w'.cell? ⟨L, 0, none⟩ = some (.slice (some ⟨a, 0, none⟩) N N) ∧ w'.cell? ⟨L, 1, none⟩ = some (.slice (some ⟨b, 0, none⟩) N N) ∧ w'.cell? ⟨w1.heap.size, 0, none⟩ = some (.int .i64 gain) ∧ w'.cell? ⟨w1.heap.size, 1, none⟩ = some (.int .i64 limit) ∧ w'.cell? ⟨w1.heap.size, 2, none⟩ = some (.slice A samples.length cA) ∧ w'.cell? ⟨w1.heap.size, 3, none⟩ = some (.slice G gaps.length c) ∧ w'.cell? ⟨w1.heap.size, 4, none⟩ = some (.slice U samples.length cU) ∧ Below V2.heap.size V2 w')
        (first | with_reducible exact hold7_drew HS.out | with_reducible exact H4.out | with_reducible exact hold7_set (hold7_set H4.out hLa hLa hca hca hca hca hca ha) hLa hLa hca hca hca hca hca ha | with_reducible exact hold7_set H4.out hLb hLb hcb hcb hcb hcb hcb hb | with_reducible exact hold7_set (hold7_set (hold7_set H4.out hLa hLa hca hca hca hca hca ha) hLa hLa hca hca hca hca hca ha) hLb hLb hcb hcb hcb hcb hcb hb | with_reducible exact hold7_set (hold7_set (hold7_set H4.out hLb hLb hcb hcb hcb hcb hcb hb) hLa hLa hca hca hca hca hca ha) hLa hLa hca hca hca hca hca ha)
        (first | (go_at_call 119; refine HCA.out.mono ?_; rintro e w4 ⟨rfl, hb4⟩; have H4 := hide (hold7_bel (hold7_drew HS.out) hb4 hz1); have hA4 := HAD.out.bel hb4; have hM4 := HMD.out.bel hb4; obtain ⟨z1, z2⟩ := hA4.g_at hgk; have z3 := hA4.frozen (k * 2); have z4 := hA4.frozen (k * 2 + 1); have z5 := (hM4.cell k).trans hmk; have z6 := hM4.frozen k))
      have hL4' : Blk w4 L 89 [.slice (some ⟨a, 0, none⟩) N N, .slice (some ⟨b, 0, none⟩) N N] := HLD.out.bel hb4
      have h44 := H4.out.2.2.2.2.2.2.2
      go_wp2_with fail
      go_roundw
      case rel =>
        refine ⟨k + 1, by omega, by go_num, ((h44.setCell ha _).setCell ha _).setCell hb _, ((hL4'.far hLa _).far hLa _).far hLb _, ?_, ?_⟩
        · rw [HVS.out]
          exact (hA4.setG (g := (sa, sb)) (by omega)).far hab _
        · rw [HMS.out]
          have := ((hM4.far (p := ⟨a, k * 2, none⟩) (Ne.symm hab) (.int .i64 sa)).far (p := ⟨a, k * 2 + 1, none⟩) (Ne.symm hab) (.int .i64 sb)).set_ k (.int .i64 (cm : Int))
          rw [show (ints LM).set k (.int .i64 (cm : Int)) = ints (LM.set k (cm : Int)) from by simp [ints, List.map_set]] at this
          exact this
      case measure => simp [intOf]; omega
    · obtain rfl : k = N := by omega
      rw [Nat.sub_self, List.replicate_zero, List.append_nil] at hAr hMr
      have hWr : Below W.heap.size W wr := tr hW2 hbr hW2.size
      have hRr : Blk wr p 89 [.slice none 0 0, .slice none 0 0] := Blk.bel HK.out hWr
      have hpa : p ≠ a := by have := HK.out.lt; have := hW2.size; omega
      have hpb : p ≠ b := by have := HK.out.lt; have := hW2.size; omega
      have d0 := hRr.cell 0
      have d1 := hRr.cell 1
      have j0 := hLr.cell 0
      have j1 := hLr.cell 1
      simp only [List.getElem?_cons_zero, List.getElem?_cons_succ] at d0 d1 j0 j1
      have k0 := hRr.frozen 0
      have k1 := hRr.frozen 1
      go_wp2
      obtain ⟨WE, hWE⟩ : ∃ WE, (wr.setCell ⟨p, 0, none⟩ (.slice (some ⟨a, 0, none⟩) k k)).setCell ⟨p, 1, none⟩ (.slice (some ⟨b, 0, none⟩) k k) = WE := ⟨_, rfl⟩
      rw [hWE]
      have hE : Blk WE p 89 [.slice (some ⟨a, 0, none⟩) k k, .slice (some ⟨b, 0, none⟩) k k] := by rw [← hWE]; exact (hRr.set_ 0 _).set_ 1 _
      have hAE : Blk WE a 76 (gs (compV (usableL limit samples gaps) samples wave k)) := by rw [← hWE]; exact (hAr.far (p := ⟨p, 0, none⟩) (Ne.symm hpa) _).far (p := ⟨p, 1, none⟩) (Ne.symm hpa) _
      have hME : Blk WE b 3 (ints (compMs (usableL limit samples gaps) wave k)) := by rw [← hWE]; exact (hMr.far (p := ⟨p, 0, none⟩) (Ne.symm hpb) _).far (p := ⟨p, 1, none⟩) (Ne.symm hpb) _
      have hBE : Below w.heap.size w WE := by
        rw [← hWE]
        exact (hbw.setCell (by show w.heap.size ≤ p; omega) _).setCell (by show w.heap.size ≤ p; omega) _
      have g0 := hE.cell 0
      have g1 := hE.cell 1
      simp only [List.getElem?_cons_zero, List.getElem?_cons_succ] at g0 g1
      clear hWE
      try simp only [Exit.inBlock, Exit.then]
      refine bodyPost_ret (by simp [results, Tryd.results60, go_sem, g0, g1]; try rfl) rfl ?_
      exact ⟨⟨_, _, rfl, hAE.rd (List.prefix_refl _), hME.rd (List.prefix_refl _)⟩, hBE⟩
end Go.Proofs.YtmedjedmeggbpaaDoor
