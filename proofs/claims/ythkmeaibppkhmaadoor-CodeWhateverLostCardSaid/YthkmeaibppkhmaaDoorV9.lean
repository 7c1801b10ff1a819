/- Contracts: the peaks of a line, as the reference has them. -/
import Derived.Test.YthkmeaibppkhmaaDoorV3
import Derived.Test.YthkmeaibppkhmaaDoorV7
import Derived.Test.YthkmeaibppkhmaaDoorV8
namespace Go.Proofs.YthkmeaibppkhmaaDoor
open Go.RowKit
set_option maxRecDepth 100000

theorem refLevel_all : RefLevel := fun V M q1 q2 vals miss k b w h1 h2 h3 h4 h5 => refLevel_c V M q1 q2 vals miss k b w h1 h2 h3 h4 h5

set_option maxHeartbeats 4000000 in
theorem refPeaksOf_c (V M : Option Addr) (q1 q2 : Nat) (vals : List (Int × Int)) (miss : List Int) (b t : Int) (w : World) (hs : Rd w V (gs vals)) (hr : Rd w M (ints miss)) (hL : lineE vals miss = 0) (hE : ruE b t = 0) :
    Calls Tryd.prog 76 #[.agg #[.slice V vals.length q1, .slice M miss.length q2], .agg #[.int .i64 b, .int .i64 t]] w fun r w' =>
      (∃ A c, r = .returned (.slice A (pkL (peakB vals miss b t) vals.length).length c) ∧ RdT w' 3 A (ints (pkL (peakB vals miss b t) vals.length))) ∧ Below w.heap.size w w' := by
  obtain ⟨i0, hi, iz0, iz1, iz2⟩ := info_parts Tryd.info3
  obtain ⟨⟨hb1, hb2⟩, ht1, ht2⟩ := ruE_zero hE
  have HOK := hide (fun (k : Nat) (hk : k < vals.length) => okAt_of hL hk)
  have hlen : 1 ≤ vals.length ∧ vals.length ≤ 64 := ⟨(lineE_zero hL).2.1, (lineE_zero hL).2.2.1⟩
  clear hL hE
  go_enter Tryd.func76, Tryd.ntmps76
  go_upto_region 1 with fail
  obtain ⟨W, hW⟩ : ∃ W, (w.alloc (.cells #[.slice V vals.length q1, .slice M miss.length q2] 89)).alloc (.cells #[.int .i64 b, .int .i64 t] 105) = W := ⟨_, rfl⟩
  have hwW : Below w.heap.size w W := by rw [← hW]; exact (alloc_bel _ _).alloc (by simp) _
  have hX : Blk W w.heap.size 89 [.slice V vals.length q1, .slice M miss.length q2] := by rw [← hW]; exact (Blk.new w _ [_, _]).bel (alloc_bel _ _)
  have hR : Blk W (w.heap.size + 1) 105 [.int .i64 b, .int .i64 t] := by rw [← hW]; exact Blk.two w 89 105 [.slice V vals.length q1, .slice M miss.length q2] [.int .i64 b, .int .i64 t]
  rw [hW]
  clear hW
  obtain ⟨p, hp⟩ : ∃ p, w.heap.size + 1 = p := ⟨_, rfl⟩
  rw [hp] at hR ⊢
  have hsW := hs.bel hwW
  have hrW := hr.bel hwW
  have hxl := hX.lt
  have hrl := hR.lt
  have c0 := hX.cell 0; have c1 := hX.cell 1; simp only [List.getElem?_cons_zero, List.getElem?_cons_succ] at c0 c1
  have r0 := hR.cell 0; have r1 := hR.cell 1; simp only [List.getElem?_cons_zero, List.getElem?_cons_succ] at r0 r1
  clear hX hR hp hs hr
  have HAN := hide (fun (k : Nat) (hk : k < vals.length) W' (hb : Below W.heap.size W W') => refAnswer_c refLevel_all V M q1 q2 vals miss k b t W' (hsW.bel hb) (hrW.bel hb) (HOK.out k hk) hb1 hb2 ht1 ht2)
  have HLZ := hide (fun (k : Nat) (hk : k < vals.length) (z : Int) (hz : z = k) W' (hb : Below W.heap.size W W') => show Calls Tryd.prog 77 #[.agg #[.slice V vals.length q1, .slice M miss.length q2], .int .i64 z, .int .i64 b] W' _ from hz ▸ refLevel_c V M q1 q2 vals miss k b W' (hsW.bel hb) (hrW.bel hb) (HOK.out k hk) hb1 hb2)
  clear HOK
  go_wp2
  go_loopw [5, 6] (fun v i wr => ∃ k : Nat, k ≤ vals.length ∧ i = .int .i64 k ∧ Below W.heap.size W wr ∧ wr.ownsRow W.heap.size 3 1 v (pkL (peakB vals miss b t) k).length (ints (pkL (peakB vals miss b t) k))) (fun _ i _ => vals.length - (intOf i).toNat)
  case atStart => exact ⟨0, Nat.zero_le _, rfl, Below.refl _ _, World.ownsRow_nil _ _ _ _⟩
  case round =>
    obtain ⟨k, hk, rfl, hbr, hown⟩ := hrel
    have hle := pkL_le (peakB vals miss b t) k
    have kr := (kp hbr).1
    by_cases hlt : k < vals.length
    · have HP : Hid (peakB vals miss b t k = (decide (ansN vals miss k b t = 2) && decide (lvLo vals miss (k - 1) b ≤ lvLo vals miss k b) && decide (lvLo vals miss (min (k + 1) (vals.length - 1)) b ≤ lvLo vals miss k b))) := rfl
      obtain ⟨m, hm⟩ : ∃ m, min (k + 1) (vals.length - 1) = m := ⟨_, rfl⟩
      have hm1 : m < vals.length := by omega
      have HM : Hid (vals.length ≤ k + 1 → m = k) := fun h => by omega
      have HM2 : Hid (k + 1 < vals.length → m = k + 1) := fun h => by omega
      rw [hm] at HP
      have HA := hide (fun W' hb => HAN.out k hlt W' hb)
      have HL1 := hide (fun z hz W' hb => HLZ.out k hlt z hz W' hb)
      have HL2 := hide (fun z hz W' hb => HLZ.out (k - 1) (by omega) z hz W' hb)
      have HL3 := hide (fun z hz W' hb => HLZ.out m hm1 z hz W' hb)
      have HK0 : Hid (k < 1 → lvLo vals miss (k - 1) b = lvLo vals miss k b) := fun h => by rw [show k - 1 = k by omega]
      have HK1 : Hid (vals.length ≤ k + 1 → lvLo vals miss m b = lvLo vals miss k b) := fun h => by rw [HM.out h]
      clear hm HAN HLZ HM
      generalize ansN vals miss k b t = an at HP HA
      generalize lvLo vals miss k b = lo at HP HL1 HK0 HK1
      generalize lvLo vals miss (k - 1) b = lo1 at HP HL2 HK0
      generalize lvLo vals miss m b = lo2 at HP HL3 HK1
      generalize lvHi vals miss k b = hi0 at HL1
      generalize lvHi vals miss (k - 1) b = hi1 at HL2
      generalize lvHi vals miss m b = hi2 at HL3
      have hfl := field_lo
      go_upto_region 6 with (first | (go_at_call 77; refine (HL1.out _ rfl _ hbr).mono ?_; rintro e w5 ⟨rfl, g5⟩))
      have j5 := bel_tr hbr hbr.size g5
      have k5 := (kp j5).1
      go_cut [59] from 21 to 58 (fun c wx => c = .bool (!peakB vals miss b t k) ∧ Below w5.heap.size w5 wx)
      case first =>
        by_cases a1 : an = 2
        · have e2 : (an != 2) = false := by simpa using a1
          have A1 := hide a1
          clear a1
          by_cases z1 : k < 1
          · have q1 := HK0.out z1
            have Q1 := hide q1
            have q1' : lo1 ≤ lo := by omega
            clear q1
            by_cases z2 : k + 1 < vals.length
            · have hmk := hide (HM2.out z2)
              by_cases a3 : lo2 ≤ lo
              all_goals
                go_wp2_with (first
              | (go_at_call 77; have _g := j6; refine (HL3.out _ (by rw [hmk.out] <;> omega) _ j6).mono ?_; rintro e w8 ⟨rfl, g8⟩; have j8 := bel_tr j6 j6.size g8; have k8 := (kp j8).1)
              | (go_at_call 78; refine (HA.out _ j5).mono ?_; rintro e w6 ⟨rfl, g6⟩; have j6 := bel_tr j5 j5.size g6; have k6 := (kp j6).1))
                go_meet
                exact ⟨by rw [HP.out]; first | (simp [A1.out]; done) | (simp [A1.out]; omega) | (refine congrArg Value.bool ?_; rw [Bool.eq_iff_iff]; simp [A1.out] <;> omega), (bel_tr g6 g6.size g8)⟩
            · have q2 := HK1.out (by omega)
              have q2' : lo2 ≤ lo := by omega
              clear q2
              go_wp2_with (first
              | (go_at_call 78; refine (HA.out _ j5).mono ?_; rintro e w6 ⟨rfl, g6⟩; have j6 := bel_tr j5 j5.size g6; have k6 := (kp j6).1))
              go_meet
              exact ⟨by rw [HP.out]; first | (simp [A1.out]; done) | (simp [A1.out]; omega) | (refine congrArg Value.bool ?_; rw [Bool.eq_iff_iff]; simp [A1.out] <;> omega), g6⟩
          · by_cases a2 : lo1 ≤ lo
            · by_cases z2 : k + 1 < vals.length
              · have hmk := hide (HM2.out z2)
                by_cases a3 : lo2 ≤ lo
                all_goals
                  go_wp2_with (first
              | (go_at_call 77; have _g := j7; refine (HL3.out _ (by rw [hmk.out] <;> omega) _ j7).mono ?_; rintro e w8 ⟨rfl, g8⟩; have j8 := bel_tr j7 j7.size g8; have k8 := (kp j8).1)
              | (go_at_call 77; have _g := j6; refine (HL2.out _ (by omega) _ j6).mono ?_; rintro e w7 ⟨rfl, g7⟩; have j7 := bel_tr j6 j6.size g7; have k7 := (kp j7).1)
              | (go_at_call 78; refine (HA.out _ j5).mono ?_; rintro e w6 ⟨rfl, g6⟩; have j6 := bel_tr j5 j5.size g6; have k6 := (kp j6).1))
                  go_meet
                  exact ⟨by rw [HP.out]; first | (simp [A1.out]; done) | (simp [A1.out]; omega) | (refine congrArg Value.bool ?_; rw [Bool.eq_iff_iff]; simp [A1.out] <;> omega), (bel_tr (bel_tr g6 g6.size g7) (bel_tr g6 g6.size g7).size g8)⟩
              · have q2 := HK1.out (by omega)
                have q2' : lo2 ≤ lo := by omega
                clear q2
                go_wp2_with (first
              | (go_at_call 77; have _g := j6; refine (HL2.out _ (by omega) _ j6).mono ?_; rintro e w7 ⟨rfl, g7⟩; have j7 := bel_tr j6 j6.size g7; have k7 := (kp j7).1)
              | (go_at_call 78; refine (HA.out _ j5).mono ?_; rintro e w6 ⟨rfl, g6⟩; have j6 := bel_tr j5 j5.size g6; have k6 := (kp j6).1))
                go_meet
                exact ⟨by rw [HP.out]; first | (simp [A1.out]; done) | (simp [A1.out]; omega) | (refine congrArg Value.bool ?_; rw [Bool.eq_iff_iff]; simp [A1.out] <;> omega), (bel_tr g6 g6.size g7)⟩
            · skip
              go_wp2_with (first
              | (go_at_call 77; have _g := j6; refine (HL2.out _ (by omega) _ j6).mono ?_; rintro e w7 ⟨rfl, g7⟩; have j7 := bel_tr j6 j6.size g7; have k7 := (kp j7).1)
              | (go_at_call 78; refine (HA.out _ j5).mono ?_; rintro e w6 ⟨rfl, g6⟩; have j6 := bel_tr j5 j5.size g6; have k6 := (kp j6).1))
              go_meet
              exact ⟨by rw [HP.out]; first | (simp [A1.out]; done) | (simp [A1.out]; omega) | (refine congrArg Value.bool ?_; rw [Bool.eq_iff_iff]; simp [A1.out] <;> omega), (bel_tr g6 g6.size g7)⟩
        · have e2 : (an != 2) = true := by simpa using a1
          have A1 := hide a1
          clear a1
          go_wp2_with (first
              | (go_at_call 78; refine (HA.out _ j5).mono ?_; rintro e w6 ⟨rfl, g6⟩; have j6 := bel_tr j5 j5.size g6; have k6 := (kp j6).1))
          go_meet
          exact ⟨by rw [HP.out]; first | (simp [A1.out]; done) | (simp [A1.out]; omega) | (refine congrArg Value.bool ?_; rw [Bool.eq_iff_iff]; simp [A1.out] <;> omega), g6⟩
      obtain ⟨rfl, hBx⟩ := hcut
      have hb5x := bel_tr g5 g5.size hBx
      have hbx := bel_tr hbr hbr.size hb5x
      have hown := ownsRow_bel hown hb5x
      clear HA HL1 HL2 HL3 HP HM2 hBx hbr hb5x HK0 HK1 j5 k5 g5 kr hfl
      cases hpk : peakB vals miss b t k
      · have hF2 := hide (pkL_no hpk)
        clear hpk
        generalize pkL (peakB vals miss b t) k = L at hown hle hF2
        go_wp2
        go_roundw
        case rel => exact ⟨k + 1, by omega, by go_num, hbx, by rw [hF2.out]; exact hown⟩
        case measure => simp [intOf]; omega
      · have hF2 := hide (pkL_yes hpk)
        clear hpk
        generalize pkL (peakB vals miss b t) k = L at hown hle hF2
        go_wp2_with (first | (at_builtin; refine wpList_append_own _ rfl _ _ 22 rfl W.heap.size 3 i0 (.int .i64 0) 1 8 Tryd.underlying22 hi iz0 iz1 iz2 rfl (by decide) _ _ _ rfl (hown.alloc _) ⟨wc.heap.size, 0, none⟩ 1 1 [.int .i64 (k : Int)] rfl rfl (cell_one_new _ _ _) (by simp [Value.oneCell']) (by unfold maxLen; omega) (by omega) (by have := hbx.size; simp; omega) ?_; intro v' w7 hown5 hg5 _))
        have hb5 : Below W.heap.size W w7 := (hbx.alloc hbx.size _).grown hg5 (by have := hbx.size; simp; omega) (fun j hj => (hown.lt j hj).1)
        go_roundw
        case rel => exact ⟨k + 1, by omega, by go_num, hb5, by rw [hF2.out, List.length_append, ints_append]; exact hown5⟩
        case measure => simp [intOf]; omega
    · obtain rfl : k = vals.length := by omega
      obtain ⟨A', c', rfl⟩ := ownsRow_slice hown
      go_wp2
      go_ret
      exact ⟨⟨A', c', rfl, RdT.of_own hown⟩, bel_tr hwW hwW.size hbr⟩
end Go.Proofs.YthkmeaibppkhmaaDoor
