/- Contracts: a cleaned frame, as the reference makes it. -/
import Derived.Test.YtnigmdkhecblnaaDoorQ4
set_option linter.unusedSimpArgs false
set_option linter.unusedVariables false
namespace Go.Proofs.YtnigmdkhecblnaaDoor
open Go.RowKit
set_option maxRecDepth 100000



theorem Blk.set4 {w : World} {g : Nat} {t : TypeId} {a b c d : Value} (h : Blk w g t [a, b, c, d]) (u v x y : Value) : Blk ((((w.setCell ⟨g, 0, none⟩ u).setCell ⟨g, 1, none⟩ v).setCell ⟨g, 2, none⟩ x).setCell ⟨g, 3, none⟩ y) g t [u, v, x, y] := (((h.set_ 0 u).set_ 1 v).set_ 2 x).set_ 3 y
theorem RdT.set4 {w : World} {t e : TypeId} {A : Option Addr} {xs : List Value} {g : Nat} {a b c d : Value} (h : RdT w t A xs) (hB : Blk w g e [a, b, c, d]) (hte : t ≠ e) (u v x y : Value) : RdT ((((w.setCell ⟨g, 0, none⟩ u).setCell ⟨g, 1, none⟩ v).setCell ⟨g, 2, none⟩ x).setCell ⟨g, 3, none⟩ y) t A xs :=
  (((h.far hB hte 0 u).far (hB.set_ 0 u) hte 1 v).far ((hB.set_ 0 u).set_ 1 v) hte 2 x).far (((hB.set_ 0 u).set_ 1 v).set_ 2 x) hte 3 y

set_option maxHeartbeats 2000000 in
theorem refCleaned_c (gain limit : Int) (A G B : Option Addr) (cA c cB : Nat) (samples : List (Int × Int)) (gaps lines : List Int) (w : World) (hs : Rd w A (gs samples)) (hr : Rd w G (ints gaps)) (hx : Rd w B (ints lines)) (hn : samples.length ≤ 1000) (hg : gaps.length ≤ 1000)
    (hl : lines.length ≤ 4) (hln : ∀ n ∈ lines, 0 ≤ n ∧ n ≤ 3) (hb : ∀ g ∈ samples, gle 2000000 g) (hgain : -8 ≤ gain ∧ gain ≤ 8) (hlim : 0 ≤ limit ∧ limit ≤ 2000000) :
    Calls Tryd.prog 14 #[.agg #[.int .i64 gain, .int .i64 limit, .slice A samples.length cA, .slice G gaps.length c], .slice B lines.length cB] w fun r w' =>
      (∃ A' cA' G' c', r = .returned (.agg #[.int .i64 (gain - 2), .int .i64 (20 * limit), .slice A' samples.length cA', .slice G' (idxL (usableL limit samples gaps) false samples.length).length c']) ∧
        RdT w' 47 A' (gs (cleanL samples (usableL limit samples gaps) lines samples.length)) ∧ RdT w' 3 G' (ints (idxL (usableL limit samples gaps) false samples.length))) ∧ Below w.heap.size w w' := by
  obtain ⟨i0, hi, iz0, iz1, iz2⟩ := info_parts Tryd.info76
  have HU := hide (fun W h1 h2 => refUsableIn_c gain limit A G cA c samples gaps false W h1 h2 hn hg (fun g hg => by have := hb g hg; simp only [gle] at this; omega))
  have HWH := hide (fun (j : Nat) (hj : j ≤ 1000) W h1 h2 => refWhole_c gain limit A G cA c samples gaps j W h1 h2 hg hj hb)
  have HHM := hide (fun (j n : Nat) (hj : 4 * j + 3 < samples.length) (hn' : n < 4) W h1 => refHarmonic_c gain limit A G cA c samples gaps.length j n W h1 hn hj hn' hb)
  have HSB := hide hb
  have HLN := hide hln
  clear hb hln
  obtain ⟨g1, g2⟩ := hgain
  obtain ⟨l1, l2⟩ := hlim
  have HUL : Hid (∀ i, (usableL limit samples gaps).getD i false = true → i < samples.length) := fun i hi => by
    by_cases h : i < samples.length
    · exact h
    · simp [usableL, List.getD, show samples.length ≤ i by omega] at hi
  generalize usableL limit samples gaps = us at HU HWH HUL ⊢
  have hX := Blk.new w 25 [.int .i64 gain, .int .i64 limit, .slice A samples.length cA, .slice G gaps.length c]
  have hY := Blk.two w 25 25 [.int .i64 gain, .int .i64 limit, .slice A samples.length cA, .slice G gaps.length c] [.int .i64 0, .int .i64 0, .slice none 0 0, .slice none 0 0]
  go_enter Tryd.func14, Tryd.ntmps14
  go_upto_region 1 with fail
  obtain ⟨V, hV⟩ : ∃ V, (w.alloc (.cells #[.int .i64 gain, .int .i64 limit, .slice A samples.length cA, .slice G gaps.length c] 25)).alloc (.cells #[.int .i64 0, .int .i64 0, .slice none 0 0, .slice none 0 0] 25) = V := ⟨_, rfl⟩
  have hwV : Below w.heap.size w V := by rw [← hV]; exact (alloc_bel _ _).alloc (by simp) _
  have hXV : Blk V w.heap.size 25 [.int .i64 gain, .int .i64 limit, .slice A samples.length cA, .slice G gaps.length c] := by rw [← hV]; exact hX.bel (alloc_bel _ _)
  have hYV : Blk V (w.heap.size + 1) 25 [.int .i64 0, .int .i64 0, .slice none 0 0, .slice none 0 0] := by rw [← hV]; exact hY
  have hsz : w.heap.size + 1 < V.heap.size := by rw [← hV]; simp
  rw [hV]
  clear hV hX hY
  have HRs := hide (hs.bel hwV)
  have HRr := hide (hr.bel hwV)
  have HRx := hide (hx.bel hwV)
  clear hs hr hx
  have hXl := hXV.lt
  have c0 := hXV.cell 0; have c1 := hXV.cell 1; have c2 := hXV.cell 2; have c3 := hXV.cell 3; simp only [List.getElem?_cons_zero, List.getElem?_cons_succ] at c0 c1 c2 c3
  have ix0 : IntKind.i64.wrap (gain - 2) = gain - 2 := by simp (disch := omega) only [IntWalk.i64_in]
  have ix1 : IntKind.i64.wrap (20 * limit) = 20 * limit := by simp (disch := omega) only [IntWalk.i64_in]
  go_cut [5] from 10 to 18 (fun t5 wx => ∃ (L c' : Nat) (G' : Option Addr), t5 = .pointer (some ⟨L, 0, none⟩) ∧ V.heap.size ≤ L ∧ Blk wx L 25 [.int .i64 (gain - 2), .int .i64 (20 * limit), .slice none 0 0, .slice G' (idxL us false samples.length).length c'] ∧ RdT wx 3 G' (ints (idxL us false samples.length)) ∧ Below V.heap.size V wx)
  case first =>
    --<RA
    go_region_held3 (fun w' => (∀ b o, b < V.heap.size → w'.cell? ⟨b, o, none⟩ = V.cell? ⟨b, o, none⟩) ∧ Below V.heap.size V w')
      ((refine kp ?_; (repeat' (first | with_reducible exact Below.refl _ _ | with_reducible exact HB3.out | with_reducible refine Below.drew ?_ | with_reducible refine bel_alloc ?_ ?_ _ | with_reducible refine Below.setCell ?_ ?_ _)); all_goals (first | omega | (simp <;> omega))))
      (first
        | (go_at_call 47; refine (HU.out _ (HRs.out.bel (by (repeat' (first | with_reducible exact Below.refl _ _ | with_reducible refine Below.drew ?_ | with_reducible refine bel_alloc ?_ ?_ _)); all_goals (first | omega | (simp <;> omega)))) (HRr.out.bel (by (repeat' (first | with_reducible exact Below.refl _ _ | with_reducible refine Below.drew ?_ | with_reducible refine bel_alloc ?_ ?_ _)); all_goals (first | omega | (simp <;> omega))))).mono ?_; rintro e w3 ⟨⟨G3, d3, rfl, hr3⟩, hb3⟩; have HB3 : Hid (Below V.heap.size V w3) := (by refine bel_tr ?_ ?_ hb3; (repeat' (first | with_reducible exact Below.refl _ _ | with_reducible refine Below.drew ?_ | with_reducible refine bel_alloc ?_ ?_ _)); all_goals (first | omega | (simp <;> omega))); have s3 := HB3.out.size; (try (refine (have B3 : Blk w3 (V.heap.size) 25 [.int .i64 0, .int .i64 0, .slice none 0 0, .slice none 0 0] := ?_; ?_); (focus ((repeat' (first | with_reducible exact Blk.new _ _ [_, _, _, _] | with_reducible refine Blk.dr ?_ | with_reducible refine Blk.bel ?_ (alloc_bel _ _) | with_reducible refine Blk.bel ?_ hb3)); done)); have c30 := B3.cell 0; have c31 := B3.cell 1; have c32 := B3.cell 2; have c33 := B3.cell 3; simp only [List.getElem?_cons_zero, List.getElem?_cons_succ] at c30 c31 c32 c33; have d30 := B3.frozen 0; have d31 := B3.frozen 1; have d32 := B3.frozen 2; have d33 := B3.frozen 3; clear B3))))
    all_goals
      go_wp2
      go_meet
      refine ⟨_, d3, G3, rfl, by first | omega | (simp <;> omega), ?_, ?_, ?_⟩
      · (repeat' (first | with_reducible exact Blk.new _ _ [_, _, _, _] | with_reducible refine Blk.set4 (a := .int .i64 0) (b := .int .i64 0) (c := .slice none 0 0) (d := .slice none 0 0) ?_ _ _ _ _ | with_reducible refine Blk.dr ?_ | with_reducible refine Blk.bel ?_ (alloc_bel _ _) | with_reducible refine Blk.bel ?_ hb3))
      · first
          | exact hr3.al _
          | (refine RdT.set4 (e := 25) (a := .int .i64 0) (b := .int .i64 0) (c := .slice none 0 0) (d := .slice none 0 0) hr3 ?_ (by decide) _ _ _ _
             (repeat' (first | with_reducible exact Blk.new _ _ [_, _, _, _] | with_reducible refine Blk.set4 (a := .int .i64 0) (b := .int .i64 0) (c := .slice none 0 0) (d := .slice none 0 0) ?_ _ _ _ _ | with_reducible refine Blk.dr ?_ | with_reducible refine Blk.bel ?_ (alloc_bel _ _) | with_reducible refine Blk.bel ?_ hb3)))
      · (repeat' (first | with_reducible exact Below.refl _ _ | with_reducible exact HB3.out | with_reducible refine Below.drew ?_ | with_reducible refine bel_alloc ?_ ?_ _ | with_reducible refine Below.setCell ?_ ?_ _)); all_goals (first | omega | (simp <;> omega))
  -->RA
  obtain ⟨L, c', G', rfl, hVL, hLc, hGc, hbc⟩ := hcut
  obtain ⟨w7, hw7⟩ : ∃ w7 : World, wc = w7 := ⟨_, rfl⟩
  rw [hw7] at hLc hGc hbc ⊢
  clear hw7 c0 c1 c2 c3 ix0 ix1
  go_wp2
  obtain ⟨LG, HLG⟩ : ∃ LG, Hid (ints (idxL us false samples.length) = LG) := ⟨_, rfl⟩
  obtain ⟨nG, HnG⟩ : ∃ nG, Hid ((idxL us false samples.length).length = nG) := ⟨_, rfl⟩
  rw [HLG.out] at hGc
  rw [HnG.out] at hLc
  go_loopw [6] (fun i wr => ∃ (k : Nat) (v : Value), k ≤ samples.length ∧ i = .int .i64 k ∧ Below V.heap.size V wr ∧ Blk wr L 25 [.int .i64 (gain - 2), .int .i64 (20 * limit), v, .slice G' nG c'] ∧ wr.ownsRow (L + 1) 47 2 v k (gs (cleanL samples us lines k)) ∧ RdT wr 3 G' LG) (fun i _ => samples.length - (intOf i).toNat)
  case atStart => exact ⟨0, _, by omega, rfl, hbc, hLc, World.ownsRow_nil _ _ _ _, hGc⟩
  case round =>
    clear hLc hGc hbc
    obtain ⟨k, v, hk, rfl, hbr, hLr, hown, hGr⟩ := hrel
    have hXr := hXV.below hbr hXl
    have hXrl := hXr.lt
    have c0 := hXr.cell 0; have c1 := hXr.cell 1; have c2 := hXr.cell 2; have c3 := hXr.cell 3; simp only [List.getElem?_cons_zero, List.getElem?_cons_succ] at c0 c1 c2 c3
    by_cases hlt : k < samples.length
    · obtain ⟨bA, oA, rfl, hbA, s0, s1⟩ := (HRs.out.bel hbr).g_at hlt
      have hsm := HSB.out _ (List.getElem_mem hlt)
      have hz0 := rest_zero samples lines k
      rw [show samples.getD k (0, 0) = samples[k] by simp [List.getD, hlt]] at hz0
      generalize samples[k] = smp at s0 s1 hsm hz0
      obtain ⟨sa, sb⟩ := smp
      dsimp only at s0 s1 hz0
      have HG := hide (fun W => gmul_c (sa, sb) (4, 0) W (by obtain ⟨e1, e2, e3, e4⟩ := hsm; unfold Mid; dsimp only at *; omega) (by unfold Mid; decide))
      rw [show gmul (sa, sb) (4, 0) = (4 * sa, 4 * sb) by simp [gmul]; omega] at HG
      have HZ0 := hide hz0
      clear hz0
      have ix0 : (0 : Int) ≤ (k : Int) := by omega
      have ix1 : (k : Int) < (samples.length : Int) := by omega
      go_upto_region 7 with (first | (go_at_call 26; refine (HG.out _).mono ?_; rintro e w8 ⟨rfl, hb8⟩))
      obtain ⟨j, hj⟩ : ∃ j, k / 4 = j := ⟨_, rfl⟩
      obtain ⟨r, hrr⟩ : ∃ r, k % 4 = r := ⟨_, rfl⟩
      rw [hj, hrr] at HZ0
      have HJ := hide (show k = 4 * j + r ∧ r < 4 by omega)
      have HJR := hide (And.intro hj hrr)
      rw [show (k : Int) - (k : Int) % 4 = 4 * (j : Int) by omega]
      clear hj hrr
      have hb8V : Below V.heap.size V w8 := bel_tr hbr hbr.size hb8
      have hL8 := hLr.bel hb8
      have hown8 := ownsRow_bel hown hb8
      have hG8 := hGr.bel hb8
      have HXB := hide (hXr.bel hb8)
      clear hLr hown hGr hXr c0 c1 c2 c3 s0 s1 hbr hb8 HG hXrl hbA
      have hS9 := Blk.new w8 47 [.int .i64 (4 * sa), .int .i64 (4 * sb)]
      have hB9 := alloc_bel w8 (.cells #[.int .i64 (4 * sa), .int .i64 (4 * sb)] 47)
      generalize w8.alloc (.cells #[.int .i64 (4 * sa), .int .i64 (4 * sb)] 47) = W9 at hS9 hB9 ⊢
      go_wp2
      go_loopw [9] (fun i wr => ∃ (m : Nat) (x y : Int), m ≤ (if allU us (4 * j) = true then lines.length else 0) ∧ i = .int .i64 m ∧ (x, y) = restN (blk4 samples j) lines r m ∧ Below w8.heap.size w8 wr ∧ Blk wr w8.heap.size 47 [.int .i64 x, .int .i64 y]) (fun i _ => lines.length - (intOf i).toNat)
      case atStart => exact ⟨0, _, _, by omega, rfl, HZ0.out.symm, hB9, hS9⟩
      case round =>
        clear hS9 hB9
        obtain ⟨m, x, y, hm, rfl, hxy, hbx, hS⟩ := hrel
        have hX8 := HXB.out.bel hbx
        have c0 := hX8.cell 0; have c1 := hX8.cell 1; have c2 := hX8.cell 2; have c3 := hX8.cell 3; simp only [List.getElem?_cons_zero, List.getElem?_cons_succ] at c0 c1 c2 c3
        by_cases hlm : m < lines.length
        · have d0 : decide ((m : Int) < (lines.length : Int)) = true := by simp; omega
          have HWk := hide (HWH.out j (by have := HJ.out; omega) wr (HRs.out.bel (bel_tr hb8V hb8V.size hbx)) (HRr.out.bel (bel_tr hb8V hb8V.size hbx)))
          cases hU : allU us (4 * j)
          · rw [hU] at HWk
            rw [hU, if_neg (by simp)] at hm
            obtain rfl : m = 0 := by omega
            go_upto_region 11 with (first | (go_at_call 48; refine HWk.out.mono ?_; rintro e_ w6 ⟨rfl, hb6⟩))
            have HXY : Hid (cleanL samples us lines (k + 1) = cleanL samples us lines k ++ [(x, y)]) := by
              show _ = _
              rw [cleanL_succ, hxy]
              unfold cleanG
              rw [HJR.out.1, HJR.out.2, hU, if_neg (by simp)]
            have hLr := hL8.bel (bel_tr hbx hbx.size hb6)
            have hownr := ownsRow_bel hown8 (bel_tr hbx hbx.size hb6)
            have hGr := hG8.bel (bel_tr hbx hbx.size hb6)
            have hbr9 : Below V.heap.size V w6 := bel_tr hb8V hb8V.size (bel_tr hbx hbx.size hb6)
            generalize cleanL samples us lines k = LK at hownr HXY
            have hSr := hS.bel hb6
            clear hxy hL8 hown8 hG8 hS hX8 HXB HWH HHM HU c0 c1 c2 c3
            have e0 := hLr.cell 0; have e1 := hLr.cell 1; have e2 := hLr.cell 2; have e3 := hLr.cell 3; simp only [List.getElem?_cons_zero, List.getElem?_cons_succ] at e0 e1 e2 e3
            have z0 := hSr.cell 0; have z1 := hSr.cell 1; simp only [List.getElem?_cons_zero, List.getElem?_cons_succ] at z0 z1
            go_wp2_with (first
              | (at_builtin; refine wpList_append_own _ rfl _ _ 22 rfl (L + 1) 47 i0 _ 2 16 Tryd.underlying22 hi iz0 iz1 iz2 rfl (by decide) _ _ _ rfl (hownr.alloc _) ⟨(w6).heap.size, 0, none⟩ 1 1 [.int .i64 x, .int .i64 y] rfl rfl (World.news_of_block (heap_alloc_new w6 _)) (by simp [Value.oneCell']) (by unfold maxLen; omega) (by omega) (by have := hLr.lt; simp; omega) ?_; intro v' w5 hown5 hg5 _; obtain ⟨A5, c5, rfl⟩ := ownsRow_slice hown5; have hne5 : some L ≠ v.ownBlock := (fun e => by have := (hownr.lt L e.symm).1; omega); have hL5 := blk_kept' (hLr.bel (alloc_bel _ (.cells #[.int .i64 x, .int .i64 y] 47))) hg5 hne5; have zf5 := hL5.frozen 2; have zc5 := hL5.cell 2; simp only [List.getElem?_cons_zero, List.getElem?_cons_succ] at zc5))
            have hG5 := (hGr.bel (alloc_bel _ (.cells #[.int .i64 x, .int .i64 y] 47))).keep (ownKeep (hownr.alloc _) hg5 (by decide))
            have hLE := hL5.set_ 2 (.slice A5 (k + 1) c5)
            have hGE := hG5.set hL5 (by decide) 2 (.slice A5 (k + 1) c5)
            have hownE := ownsRow_setCell_below hown5 (a := ⟨L, 2, none⟩) (by show L < L + 1; omega) (.slice A5 (k + 1) c5)
            have hbE : Below V.heap.size V (w5.setCell ⟨L, 2, none⟩ (.slice A5 (k + 1) c5)) := ((hbr9.alloc hbr9.size _).grown hg5 (by have := hbr9.size; simp; omega) (fun j hj => by have := (hownr.lt j hj).1; omega)).setCell (p := ⟨L, 2, none⟩) (by show V.heap.size ≤ L; omega) _
            simp only [List.set_cons_succ, List.set_cons_zero] at hLE
            clear hownr hGr hLr hSr hL5 hG5 hg5 hown5 e0 e1 e2 e3 z0 z1 zf5 zc5 hbr9
            generalize w5.setCell ⟨L, 2, none⟩ (.slice A5 (k + 1) c5) = WE at hLE hGE hownE hbE ⊢
            go_wp2
            go_roundw
            case rel => exact ⟨k + 1, .slice A5 (k + 1) c5, by omega, by go_num, hbE, hLE, by rw [HXY.out, gs_append]; exact hownE, hGE⟩
            case measure => simp [intOf]; omega
          · rw [hU] at HWk
            rw [hU, if_pos rfl] at hm
            obtain ⟨bB, oB, rfl, hbB, z0⟩ := (HRx.out.bel (bel_tr hb8V hb8V.size hbx)).int_at hlm
            have hnx : restN (blk4 samples j) lines r (m + 1) = gsubI (x, y) (gmul (harmN (blk4 samples j) lines[m] 4) (turnG ((lines[m] * (r : Int)) % 4).toNat)) := by
              rw [restN, ← hxy, show lines.getD m 0 = lines[m] by simp [List.getD, hlm]]
            have hln := HLN.out _ (List.getElem_mem hlm)
            generalize lines[m] = n at z0 hnx hln
            obtain ⟨nn, rfl⟩ := Int.eq_ofNat_of_zero_le hln.1
            have hn4 : nn < 4 := by omega
            have h43 : 4 * j + 3 < samples.length := HUL.out _ (allU_iff.1 hU 3 (by omega))
            have hr4 := HJ.out.2
            have hnr : 0 ≤ (nn : Int) * r ∧ (nn : Int) * r ≤ 9 := by
              refine ⟨Int.mul_nonneg (by omega) (by omega), ?_⟩
              have h2 : (nn : Int) * r ≤ 3 * 3 := Int.mul_le_mul (by omega) (by omega) (by omega) (by omega)
              omega
            have hk4 : ((nn : Int) * r % 4).toNat < 4 := by omega
            have hgh := gle_harm (L := blk4 samples j) (fun q => gle_blk4 (by omega) HSB.out j q) (nn : Int) 4
            have hgr := gle_rest (L := blk4 samples j) (fun q => gle_blk4 (by omega) HSB.out j q) lines r m
            rw [← hxy] at hgr
            have hpr := gle_mulTurn hgh hk4
            have HHk := hide (fun W h1 => HHM.out j nn h43 hn4 W h1)
            rw [show harmB samples j nn = harmN (blk4 samples j) (nn : Int) 4 from rfl] at HHk
            have HT := hide (fun W => refTurn_c ((nn : Int) * r) W (by omega) (by omega))
            have HM := turnG_mid _ hk4
            have HU4 := hide hU
            clear hU hxy hk4
            generalize turnG ((nn : Int) * r % 4).toNat = tg at HT HM hnx hpr
            generalize harmN (blk4 samples j) (nn : Int) 4 = hh at HHk hgh hnx hpr
            obtain ⟨ha, hb⟩ := hh
            obtain ⟨ta, tb⟩ := tg
            have HG2 := hide (fun W => gmul_c (ha, hb) (ta, tb) W (by obtain ⟨e1, e2, e3, e4⟩ := hgh; unfold Mid; dsimp only at *; omega) HM)
            have HG3 := hide (fun W => gsub_c (x, y) (gmul (ha, hb) (ta, tb)) W (by obtain ⟨e1, e2, e3, e4⟩ := hgr; dsimp only at *; omega) (by obtain ⟨e1, e2, e3, e4⟩ := hpr; omega))
            generalize gmul (ha, hb) (ta, tb) = pr at HG2 HG3 hnx
            obtain ⟨px, py⟩ := pr
            dsimp only at HG2 HG3 HT HHk
            have HN : Hid ((x - px, y - py) = restN (blk4 samples j) lines r (m + 1)) := hnx.symm
            clear hgh hgr hpr HM hnx hln
            generalize x - px = nx at HG3 HN
            generalize y - py = ny at HG3 HN
            have ix5 : IntKind.i64.wrap ((k : Int) - 4 * (j : Int)) = (r : Int) := by
              rw [show (k : Int) - 4 * (j : Int) = (r : Int) by have := HJ.out; omega]
              simp (disch := omega) only [IntWalk.i64_in]
            have ix7 : IntKind.i64.wrap ((nn : Int) * (r : Int)) = (nn : Int) * (r : Int) := by simp (disch := omega) only [IntWalk.i64_in]
            have ix8 : (0 : Int) ≤ (m : Int) := by omega
            have ix9 : (m : Int) < (lines.length : Int) := by omega
            clear hnr hn4 h43 hr4
            go_upto_region 10 with (first | (go_at_call 48; refine HWk.out.mono ?_; rintro e_ w6 ⟨rfl, hb6⟩))
            have hbx6 := bel_tr hbx hbx.size hb6
            have hbV6 := bel_tr hb8V hb8V.size hbx6
            have HRw := hide (HRs.out.bel hbV6)
            have hX6 := hX8.bel hb6
            have hS6 := hS.bel hb6
            have hXl := hX6.lt
            have hSl := hS6.lt
            replace z0 := (hb6.cell (p := ⟨bB, _, none⟩) (World.block_lt_of_cell? _ _ z0)).trans z0
            have hbB6 := World.block_lt_of_cell? _ _ z0
            clear c0 c1 c2 c3 hX8 hS HWk
            have c0 := hX6.cell 0; have c1 := hX6.cell 1; have c2 := hX6.cell 2; have c3 := hX6.cell 3; simp only [List.getElem?_cons_zero, List.getElem?_cons_succ] at c0 c1 c2 c3
            have y0 := hS6.cell 0; have y1 := hS6.cell 1; simp only [List.getElem?_cons_zero, List.getElem?_cons_succ] at y0 y1
            have HS := hide hS6
            clear hX6 hS6
            refine wp_region_M (fun w' => (∀ b o, b < w6.heap.size → w'.cell? ⟨b, o, none⟩ = w6.cell? ⟨b, o, none⟩) ∧ Below w6.heap.size w6 w') 19 (by kernel_rfl) ?_
            have hSd := kp_refl w6
            refine AnyM.take (i := 0) (v := ?_) rfl (by kernel_rfl) (by kernel_rfl) (by kernel_rfl) (by kernel_rfl) (fun _ _ _ h => h) (Or.inl ⟨by rfl, ?_⟩) (by assumption) ?_
            rotate_left 1
            · (intro w hSw; (try dsimp only at hSw); go_simp <;> with_reducible rfl)
            try simp only [Act.put]
            refine AnyM.take (i := 1) (v := ?_) rfl (by kernel_rfl) (by kernel_rfl) (by kernel_rfl) (by kernel_rfl) (fun _ _ _ h => h) (Or.inl ⟨by rfl, ?_⟩) (by assumption) ?_
            rotate_left 1
            · (intro w hSw; (try dsimp only at hSw); go_simp <;> with_reducible rfl)
            try simp only [Act.put]
            refine AnyM.take (i := 2) (v := ?_) rfl (by kernel_rfl) (by kernel_rfl) (by kernel_rfl) (by kernel_rfl) (fun _ _ _ h => h) (Or.inl ⟨by rfl, ?_⟩) (by assumption) ?_
            rotate_left 1
            · (intro w hSw; (try dsimp only at hSw); go_simp <;> with_reducible rfl)
            try simp only [Act.put]
            refine AnyM.take (i := 3) (v := ?_) rfl (by kernel_rfl) (by kernel_rfl) (by kernel_rfl) (by kernel_rfl) (fun _ _ _ h => h) (Or.inl ⟨by rfl, ?_⟩) (by assumption) ?_
            rotate_left 1
            · (intro w hSw; (try dsimp only at hSw); go_simp <;> with_reducible rfl)
            try simp only [Act.put]
            refine AnyM.take (i := 4) (v := ?_) rfl (by kernel_rfl) (by kernel_rfl) (by kernel_rfl) (by kernel_rfl) (fun _ _ _ h => h) (Or.inl ⟨by rfl, ?_⟩) (by assumption) ?_
            rotate_left 1
            · (intro w hSw; (try dsimp only at hSw); go_simp <;> with_reducible rfl)
            try simp only [Act.put]
            refine AnyM.take (i := 5) (v := ?_) rfl (by kernel_rfl) (by kernel_rfl) (by kernel_rfl) (by kernel_rfl) (fun _ _ _ h => h) (Or.inl ⟨by rfl, ?_⟩) (by assumption) ?_
            rotate_left 1
            · (intro w hSw; (try dsimp only at hSw); go_simp <;> with_reducible rfl)
            try simp only [Act.put]
            refine AnyM.take (i := 6) (v := ?_) rfl (by kernel_rfl) (by kernel_rfl) (by kernel_rfl) (by kernel_rfl) (fun _ _ _ h => h) (Or.inl ⟨by rfl, ?_⟩) (by assumption) ?_
            rotate_left 1
            · (intro w hSw; (try dsimp only at hSw); go_simp <;> with_reducible rfl)
            try simp only [Act.put]
            refine AnyM.take (i := 8) (v := ?_) rfl (by kernel_rfl) (by kernel_rfl) (by kernel_rfl) (by kernel_rfl) (fun _ _ _ h => h) (Or.inl ⟨by rfl, ?_⟩) (by assumption) ?_
            rotate_left 1
            · (intro w hSw; (try dsimp only at hSw); go_simp <;> with_reducible rfl)
            try simp only [Act.put]
            refine AnyM.take (i := 9) (v := ?_) rfl (by kernel_rfl) (by kernel_rfl) (by kernel_rfl) (by kernel_rfl) (fun _ _ _ h => h) (Or.inl ⟨by rfl, ?_⟩) (by assumption) ?_
            rotate_left 1
            · (intro w hSw; (try dsimp only at hSw); go_simp <;> with_reducible rfl)
            try simp only [Act.put]
            refine AnyM.take (i := 10) (v := ?_) rfl (by kernel_rfl) (by kernel_rfl) (by kernel_rfl) (by kernel_rfl) (fun _ _ _ h => h) (Or.inl ⟨by rfl, ?_⟩) (by assumption) ?_
            rotate_left 1
            · (intro w hSw; (try dsimp only at hSw); go_simp <;> with_reducible rfl)
            try simp only [Act.put]
            refine AnyM.take (i := 11) (v := ?_) rfl (by kernel_rfl) (by kernel_rfl) (by kernel_rfl) (by kernel_rfl) (fun _ _ _ h => h) (Or.inl ⟨by rfl, ?_⟩) (by assumption) ?_
            rotate_left 1
            · (intro w hSw; (try dsimp only at hSw); go_simp <;> with_reducible rfl)
            try simp only [Act.put]
            refine AnyM.take (i := 12) (v := ?_) rfl (by kernel_rfl) (by kernel_rfl) (by kernel_rfl) (by kernel_rfl) (fun _ _ _ h => h) (Or.inl ⟨by rfl, ?_⟩) (by assumption) ?_
            rotate_left 1
            · (intro w hSw; (try dsimp only at hSw); go_simp <;> with_reducible rfl)
            try simp only [Act.put]
            refine AnyM.take (i := 13) (v := ?_) rfl (by kernel_rfl) (by kernel_rfl) (by kernel_rfl) (by kernel_rfl) (fun _ _ _ h => h) (Or.inl ⟨by rfl, ?_⟩) (by assumption) ?_
            rotate_left 1
            · (intro w hSw; (try dsimp only at hSw); go_simp <;> with_reducible rfl)
            try simp only [Act.put]
            refine AnyM.take (i := 14) (v := ?_) rfl (by kernel_rfl) (by kernel_rfl) (by kernel_rfl) (by kernel_rfl) (fun _ _ _ h => h) (Or.inl ⟨by rfl, ?_⟩) (by assumption) ?_
            rotate_left 1
            · (intro w hSw; (try dsimp only at hSw); go_simp <;> with_reducible rfl)
            try simp only [Act.put]
            refine AnyM.take (i := 15) (v := ?_) rfl (by kernel_rfl) (by kernel_rfl) (by kernel_rfl) (by kernel_rfl) (fun _ _ _ h => h) (Or.inl ⟨by rfl, ?_⟩) (by assumption) ?_
            rotate_left 1
            · (intro w hSw; (try dsimp only at hSw); go_simp <;> with_reducible rfl)
            try simp only [Act.put]
            refine AnyM.next [7] (by kernel_rfl) (by simp) ?_
            refine NextM.cons rfl (fun K hK => ?_) NextM.nil
            go_simp
            refine (HHk.out _ (HRw.out.bel hSd.2)).mono ?_
            rintro e u7 ⟨rfl, hb7⟩
            have hB7 := bel_tr hSd.2 hSd.2.size hb7
            clear hSd
            have hSd := kp hB7
            try dsimp only
            refine hK.out _ _ (fun _ => hSd) ?_
            clear hK K
            try simp only [Act.put]
            refine AnyM.next [16] (by kernel_rfl) (by simp) ?_
            refine NextM.cons rfl (fun K hK => ?_) NextM.nil
            go_simp
            refine (HT.out _).mono ?_
            rintro e u8 ⟨rfl, hb8⟩
            have hB8 := bel_tr hB7 hB7.size hb8
            clear hSd
            have hSd := kp hB8
            try dsimp only
            refine hK.out _ _ (fun _ => hSd) ?_
            clear hK K
            try simp only [Act.put]
            refine AnyM.next [17] (by kernel_rfl) (by simp) ?_
            refine NextM.cons rfl (fun K hK => ?_) NextM.nil
            go_simp
            refine (HG2.out _).mono ?_
            rintro e u9 ⟨rfl, hb9⟩
            have hB9 := bel_tr hB8 hB8.size hb9
            clear hSd
            have hSd := kp hB9
            try dsimp only
            refine hK.out _ _ (fun _ => hSd) ?_
            clear hK K
            try simp only [Act.put]
            refine AnyM.next [18] (by kernel_rfl) (by simp) ?_
            refine NextM.cons rfl (fun K hK => ?_) NextM.nil
            go_simp
            refine (HG3.out _).mono ?_
            rintro e u10 ⟨rfl, hb10⟩
            have hB10 := bel_tr hB9 hB9.size hb10
            clear hSd
            have hSd := kp hB10
            try dsimp only
            refine hK.out _ _ (fun _ => hSd) ?_
            clear hK K
            try simp only [Act.put]
            refine AnyM.next [19] (by kernel_rfl) (by simp) ?_
            refine NextM.cons rfl (fun K hK => ?_) NextM.nil
            have hS10 := HS.out.bel hB10
            have z0 := hS10.cell 0; have z1 := hS10.cell 1; simp only [List.getElem?_cons_zero, List.getElem?_cons_succ] at z0 z1
            have f0 := hS10.frozen 0
            have f1 := hS10.frozen 1
            go_simp
            refine hK.out _ _ (fun h => by simp at h) ?_
            clear hK K
            try simp only [Act.put]
            refine AnyM.done (by kernel_rfl) ?_ _
            have hGE := hS10.set2 (.int .i64 nx) (.int .i64 ny)
            have hbE : Below w8.heap.size w8 ((u10.setCell ⟨w8.heap.size, 0, none⟩ (.int .i64 nx)).setCell ⟨w8.heap.size, 1, none⟩ (.int .i64 ny)) := ((bel_tr hbx6 hbx6.size hB10).setCell (p := ⟨w8.heap.size, 0, none⟩) (Nat.le_refl _) _).setCell (p := ⟨w8.heap.size, 1, none⟩) (Nat.le_refl _) _
            generalize (u10.setCell ⟨w8.heap.size, 0, none⟩ (.int .i64 nx)).setCell ⟨w8.heap.size, 1, none⟩ (.int .i64 ny) = WE at hGE hbE ⊢
            clear hSd hB7 hB8 hB9 hB10 hb7 hb8 hb9 hb10 hS10 z0 z1 f0 f1 y0 y1
            go_wp2
            go_roundw
            case rel => exact ⟨m + 1, nx, ny, by first | omega | (rw [if_pos HU4.out]; omega), by go_num, HN.out, hbE, hGE⟩
            case measure => simp [intOf]; omega
        · have d0 : decide ((m : Int) < (lines.length : Int)) = false := by simp; omega
          have em : Hid (m = (if allU us (4 * j) = true then lines.length else 0)) := by
            show m = _
            split at hm <;> rename_i hc
            · rw [if_pos hc]; omega
            · rw [if_neg hc]; omega
          replace hm : m ≤ lines.length := by split at hm <;> omega
          go_upto_region 11 with fail
          have hb6 := Below.refl wr.heap.size wr
          · skip
            have HXY : Hid (cleanL samples us lines (k + 1) = cleanL samples us lines k ++ [(x, y)]) := by
              show _ = _
              rw [cleanL_succ, hxy]
              unfold cleanG
              rw [HJR.out.1, HJR.out.2, ← em.out]
            have hLr := hL8.bel hbx
            have hownr := ownsRow_bel hown8 hbx
            have hGr := hG8.bel hbx
            have hbr9 : Below V.heap.size V wr := bel_tr hb8V hb8V.size hbx
            generalize cleanL samples us lines k = LK at hownr HXY
            have hSr := hS
            clear hxy hL8 hown8 hG8 hS hX8 HXB HWH HHM HU c0 c1 c2 c3
            have e0 := hLr.cell 0; have e1 := hLr.cell 1; have e2 := hLr.cell 2; have e3 := hLr.cell 3; simp only [List.getElem?_cons_zero, List.getElem?_cons_succ] at e0 e1 e2 e3
            have z0 := hSr.cell 0; have z1 := hSr.cell 1; simp only [List.getElem?_cons_zero, List.getElem?_cons_succ] at z0 z1
            go_wp2_with (first
              | (at_builtin; refine wpList_append_own _ rfl _ _ 22 rfl (L + 1) 47 i0 _ 2 16 Tryd.underlying22 hi iz0 iz1 iz2 rfl (by decide) _ _ _ rfl (hownr.alloc _) ⟨(wr).heap.size, 0, none⟩ 1 1 [.int .i64 x, .int .i64 y] rfl rfl (World.news_of_block (heap_alloc_new wr _)) (by simp [Value.oneCell']) (by unfold maxLen; omega) (by omega) (by have := hLr.lt; simp; omega) ?_; intro v' w5 hown5 hg5 _; obtain ⟨A5, c5, rfl⟩ := ownsRow_slice hown5; have hne5 : some L ≠ v.ownBlock := (fun e => by have := (hownr.lt L e.symm).1; omega); have hL5 := blk_kept' (hLr.bel (alloc_bel _ (.cells #[.int .i64 x, .int .i64 y] 47))) hg5 hne5; have zf5 := hL5.frozen 2; have zc5 := hL5.cell 2; simp only [List.getElem?_cons_zero, List.getElem?_cons_succ] at zc5))
            have hG5 := (hGr.bel (alloc_bel _ (.cells #[.int .i64 x, .int .i64 y] 47))).keep (ownKeep (hownr.alloc _) hg5 (by decide))
            have hLE := hL5.set_ 2 (.slice A5 (k + 1) c5)
            have hGE := hG5.set hL5 (by decide) 2 (.slice A5 (k + 1) c5)
            have hownE := ownsRow_setCell_below hown5 (a := ⟨L, 2, none⟩) (by show L < L + 1; omega) (.slice A5 (k + 1) c5)
            have hbE : Below V.heap.size V (w5.setCell ⟨L, 2, none⟩ (.slice A5 (k + 1) c5)) := ((hbr9.alloc hbr9.size _).grown hg5 (by have := hbr9.size; simp; omega) (fun j hj => by have := (hownr.lt j hj).1; omega)).setCell (p := ⟨L, 2, none⟩) (by show V.heap.size ≤ L; omega) _
            simp only [List.set_cons_succ, List.set_cons_zero] at hLE
            clear hownr hGr hLr hSr hL5 hG5 hg5 hown5 e0 e1 e2 e3 z0 z1 zf5 zc5 hbr9
            generalize w5.setCell ⟨L, 2, none⟩ (.slice A5 (k + 1) c5) = WE at hLE hGE hownE hbE ⊢
            go_wp2
            go_roundw
            case rel => exact ⟨k + 1, .slice A5 (k + 1) c5, by omega, by go_num, hbE, hLE, by rw [HXY.out, gs_append]; exact hownE, hGE⟩
            case measure => simp [intOf]; omega
    · obtain rfl : k = samples.length := by omega
      obtain ⟨A', cA', rfl⟩ := ownsRow_slice hown
      have hYr := hYV.below hbr hYV.lt
      have hrd := RdT.of_own hown
      have e0 := hLr.cell 0; have e1 := hLr.cell 1; have e2 := hLr.cell 2; have e3 := hLr.cell 3; simp only [List.getElem?_cons_zero, List.getElem?_cons_succ] at e0 e1 e2 e3
      have y0 := hYr.cell 0; have y1 := hYr.cell 1; have y2 := hYr.cell 2; have y3 := hYr.cell 3; simp only [List.getElem?_cons_zero, List.getElem?_cons_succ] at y0 y1 y2 y3
      have f0 := hYr.frozen 0
      have f1 := hYr.frozen 1
      have f2 := hYr.frozen 2
      have f3 := hYr.frozen 3
      have hrE := hrd.set4 hYr (by decide) (.int .i64 (gain - 2)) (.int .i64 (20 * limit)) (.slice A' samples.length cA') (.slice G' nG c')
      have hGE := hGr.set4 hYr (by decide) (.int .i64 (gain - 2)) (.int .i64 (20 * limit)) (.slice A' samples.length cA') (.slice G' nG c')
      have hYE := hYr.set4 (.int .i64 (gain - 2)) (.int .i64 (20 * limit)) (.slice A' samples.length cA') (.slice G' nG c')
      have hbw := bel_tr hwV hwV.size hbr
      have hbE : Below w.heap.size w ((((wr.setCell ⟨w.heap.size + 1, 0, none⟩ (.int .i64 (gain - 2))).setCell ⟨w.heap.size + 1, 1, none⟩ (.int .i64 (20 * limit))).setCell ⟨w.heap.size + 1, 2, none⟩ (.slice A' samples.length cA')).setCell ⟨w.heap.size + 1, 3, none⟩ (.slice G' nG c')) := (((hbw.setCell (by show w.heap.size ≤ w.heap.size + 1; omega) _).setCell (by show w.heap.size ≤ w.heap.size + 1; omega) _).setCell (by show w.heap.size ≤ w.heap.size + 1; omega) _).setCell (by show w.heap.size ≤ w.heap.size + 1; omega) _
      clear hrd hGr hYr hown hbw
      go_wp2
      generalize (((wr.setCell ⟨w.heap.size + 1, 0, none⟩ (.int .i64 (gain - 2))).setCell ⟨w.heap.size + 1, 1, none⟩ (.int .i64 (20 * limit))).setCell ⟨w.heap.size + 1, 2, none⟩ (.slice A' samples.length cA')).setCell ⟨w.heap.size + 1, 3, none⟩ (.slice G' nG c') = WE at hrE hGE hYE hbE ⊢
      have t0 := hYE.cell 0
      have t1 := hYE.cell 1
      have t2 := hYE.cell 2
      have t3 := hYE.cell 3
      simp only [List.getElem?_cons_zero, List.getElem?_cons_succ] at t0 t1 t2 t3
      refine bodyPost_ret (by simp [results, Tryd.results14, go_sem, t0, t1, t2, t3]; try rfl) rfl ?_
      exact ⟨⟨A', cA', G', c', by rw [HnG.out], hrE, by rw [HLG.out]; exact hGE⟩, hbE⟩
end Go.Proofs.YtnigmdkhecblnaaDoor
