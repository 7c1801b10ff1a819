/- Contracts: the peaks of a line (the program's). -/
import Derived.Test.YthkmeaibppkhmaaDoorV6
import Derived.Outline
namespace Go.Proofs.YthkmeaibppkhmaaDoor
open Go.RowKit
set_option maxRecDepth 100000

/-- The numbers below n for which p holds. -/
def pkL (p : Nat → Bool) : Nat → List Int
  | 0 => []
  | k + 1 => if p k then pkL p k ++ [(k : Int)] else pkL p k
theorem pkL_le (p : Nat → Bool) (k : Nat) : (pkL p k).length ≤ k := by
  induction k with
  | zero => simp [pkL]
  | succ k ih =>
    simp only [pkL]
    split
    · simp; omega
    · omega
theorem pkL_yes {p : Nat → Bool} {k : Nat} (h : p k = true) : pkL p (k + 1) = pkL p k ++ [(k : Int)] := by simp [pkL, h]
theorem pkL_no {p : Nat → Bool} {k : Nat} (h : p k = false) : pkL p (k + 1) = pkL p k := by simp [pkL, h]

/-- A peak at a lag. -/
def peakB (vals : List (Int × Int)) (miss : List Int) (b t : Int) (k : Nat) : Bool :=
  decide (ansN vals miss k b t = 2) && decide (lvLo vals miss (k - 1) b ≤ lvLo vals miss k b) && decide (lvLo vals miss (min (k + 1) (vals.length - 1)) b ≤ lvLo vals miss k b)

/-- The first field of a range, taken out of a value. -/
theorem field_lo (a b : Int) (w : World) : (Instr.field 107 (.agg #[.int .i64 a, .int .i64 b]) 0).run Tryd.prog w = .ok (.int .i64 a) w := by rfl

theorem low_c (V M : Option Addr) (q1 q2 : Nat) (vals : List (Int × Int)) (miss : List Int) (k : Nat) (b t : Int) (x y : Nat) (w : World) (hx : Blk w x 89 [.slice V vals.length q1, .slice M miss.length q2]) (hy : Blk w y 105 [.int .i64 b, .int .i64 t]) (hs : Rd w V (gs vals)) (hr : Rd w M (ints miss)) (hok : okAt vals miss k) (hb1 : 0 ≤ b) (hb2 : b ≤ 2000000) :
    Calls Tryd.prog 126 (#[.int .i64 k] ++ #[.pointer (some ⟨x, 0, none⟩), .pointer (some ⟨y, 0, none⟩)]) w fun r w' => r = .returned (.int .i64 (lvLo vals miss k b)) ∧ Below w.heap.size w w' := by
  rw [show (#[.int .i64 k] ++ #[.pointer (some ⟨x, 0, none⟩), .pointer (some ⟨y, 0, none⟩)] : Array Value) = #[.int .i64 k, .pointer (some ⟨x, 0, none⟩), .pointer (some ⟨y, 0, none⟩)] from rfl]
  have HLV := hide (fun W h1 h2 => level_c V M q1 q2 vals miss k b W h1 h2 hok hb1 hb2)
  generalize lvLo vals miss k b = lo at HLV ⊢
  generalize lvHi vals miss k b = hi at HLV
  have c0 := hx.cell 0; have c1 := hx.cell 1; simp only [List.getElem?_cons_zero, List.getElem?_cons_succ] at c0 c1
  have y0 := hy.cell 0; have y1 := hy.cell 1; simp only [List.getElem?_cons_zero, List.getElem?_cons_succ] at y0 y1
  have hfl := field_lo lo hi
  go_enter Tryd.func126, Tryd.ntmps126
  go_wp2_with (first | (go_at_call 123; refine (HLV.out _ hs hr).mono ?_; rintro e w1 ⟨rfl, hbA⟩))
  go_ret
  exact ⟨rfl, hbA⟩

theorem peaksOf_err (V M : Option Addr) (q1 q2 : Nat) (vals : List (Int × Int)) (miss : List Int) (b t : Int) (w : World) (hs : Rd w V (gs vals)) (hr : Rd w M (ints miss)) (hn : vals.length ≤ 1000) (hE : pkE vals miss b t ≠ 0) :
    Calls Tryd.prog 73 #[.agg #[.slice V vals.length q1, .slice M miss.length q2], .agg #[.int .i64 b, .int .i64 t]] w fun r w' => r = .returned (.tuple #[.slice none 0 0, .int .i64 (pkE vals miss b t)]) ∧ Below w.heap.size w w' := by
  have e1 : (pkE vals miss b t != 0) = true := by simpa using hE
  clear hE
  have HLE := hide (fun W h1 h2 => lineError_c V M q1 q2 vals miss W h1 h2 hn)
  have HF : Hid (firstE [lineE vals miss, ruE b t] = pkE vals miss b t) := rfl
  go_enter Tryd.func73, Tryd.ntmps73
  go_upto_region 1 with fail
  obtain ⟨W, hW⟩ : ∃ W, (w.alloc (.cells #[.slice V vals.length q1, .slice M miss.length q2] 89)).alloc (.cells #[.int .i64 b, .int .i64 t] 105) = W := ⟨_, rfl⟩
  have hwW : Below w.heap.size w W := by rw [← hW]; exact (alloc_bel _ _).alloc (by simp) _
  have hX : Blk W w.heap.size 89 [.slice V vals.length q1, .slice M miss.length q2] := by rw [← hW]; exact (Blk.new w _ [_, _]).bel (alloc_bel _ _)
  have hR : Blk W (w.heap.size + 1) 105 [.int .i64 b, .int .i64 t] := by rw [← hW]; exact Blk.two w 89 105 [.slice V vals.length q1, .slice M miss.length q2] [.int .i64 b, .int .i64 t]
  rw [hW]
  clear hW
  obtain ⟨p, hp⟩ : ∃ p, w.heap.size + 1 = p := ⟨_, rfl⟩
  rw [hp] at hR ⊢
  have hsW := hs.bel hwW
  have hrW := hr.bel hwW
  have hxl := hX.lt
  have hrl := hR.lt
  have c0 := hX.cell 0; have c1 := hX.cell 1; simp only [List.getElem?_cons_zero, List.getElem?_cons_succ] at c0 c1
  have r0 := hR.cell 0; have r1 := hR.cell 1; simp only [List.getElem?_cons_zero, List.getElem?_cons_succ] at r0 r1
  have HX := hide hX
  have HR := hide hR
  clear hX hR hp hs hr
  go_region_held3 (fun w' => (∀ b o, b < W.heap.size → w'.cell? ⟨b, o, none⟩ = W.cell? ⟨b, o, none⟩) ∧ Below W.heap.size W w')
    (first | with_reducible exact kp_refl W | with_reducible exact kp HB1.out | with_reducible exact kp HB3.out | with_reducible exact kp (bel_alloc HB3.out HB3.out.size _))
    (first
      | (go_at_call 120; refine (HLE.out _ (hsW.drewN 1) (hrW.drewN 1)).mono ?_; rintro e w1 ⟨rfl, hbA⟩; have HB1 := hide (bel_tr ((Below.refl W.heap.size W).drew) (Nat.le_refl _) hbA))
      | (go_at_call 124; refine (ruleError_c _ _ _).mono ?_; rintro e w3 ⟨rfl, hbC⟩; have HB3 := hide (bel_tr HB1.out HB1.out.size hbC))
      | (go_at_call 92; refine (firstError_2 _ _ _).mono ?_; rintro e_ w_ ⟨rfl, rfl⟩))
  rw [HF.out]
  obtain ⟨w4, hw4⟩ : ∃ w4, w3.alloc (.cells #[.int .i64 (lineE vals miss), .int .i64 (ruE b t)] 25) = w4 := ⟨_, rfl⟩
  have hB4 : Below W.heap.size W w4 := by rw [← hw4]; exact bel_alloc HB3.out HB3.out.size _
  rw [hw4]
  clear hw4 HB1 HB3 HF HLE
  generalize lineE vals miss = ea
  generalize ruE b t = ec
  generalize hEq : pkE vals miss b t = E at e1 ⊢
  have HEQ := hide hEq
  clear hEq
  go_wp2
  go_ret2
  exact ⟨by rw [HEQ.out]; rfl, bel_tr hwW hwW.size hB4⟩

set_option maxHeartbeats 4000000 in
theorem peaksOf_ok (V M : Option Addr) (q1 q2 : Nat) (vals : List (Int × Int)) (miss : List Int) (b t : Int) (w : World) (hs : Rd w V (gs vals)) (hr : Rd w M (ints miss)) (hn : vals.length ≤ 1000) (hE : pkE vals miss b t = 0) :
    Calls Tryd.prog 73 #[.agg #[.slice V vals.length q1, .slice M miss.length q2], .agg #[.int .i64 b, .int .i64 t]] w fun r w' =>
      (∃ A c, r = .returned (.tuple #[.slice A (pkL (peakB vals miss b t) vals.length).length c, .int .i64 0]) ∧ RdT w' 3 A (ints (pkL (peakB vals miss b t) vals.length))) ∧ Below w.heap.size w w' := by
  obtain ⟨i0, hi, iz0, iz1, iz2⟩ := info_parts Tryd.info3
  have e1 : (pkE vals miss b t != 0) = false := by simpa using hE
  have h0 := firstE_zero hE
  obtain ⟨⟨hb1, hb2⟩, ht1, ht2⟩ := ruE_zero (h0 (ruE b t) (by simp))
  have HOK := hide (fun (k : Nat) (hk : k < vals.length) => okAt_of (h0 (lineE vals miss) (by simp)) hk)
  have hlen : 1 ≤ vals.length := (lineE_zero (h0 (lineE vals miss) (by simp))).2.1
  clear h0 hE
  have HLE := hide (fun W h1 h2 => lineError_c V M q1 q2 vals miss W h1 h2 hn)
  have HF : Hid (firstE [lineE vals miss, ruE b t] = pkE vals miss b t) := rfl
  go_enter Tryd.func73, Tryd.ntmps73
  go_upto_region 1 with fail
  obtain ⟨W, hW⟩ : ∃ W, (w.alloc (.cells #[.slice V vals.length q1, .slice M miss.length q2] 89)).alloc (.cells #[.int .i64 b, .int .i64 t] 105) = W := ⟨_, rfl⟩
  have hwW : Below w.heap.size w W := by rw [← hW]; exact (alloc_bel _ _).alloc (by simp) _
  have hX : Blk W w.heap.size 89 [.slice V vals.length q1, .slice M miss.length q2] := by rw [← hW]; exact (Blk.new w _ [_, _]).bel (alloc_bel _ _)
  have hR : Blk W (w.heap.size + 1) 105 [.int .i64 b, .int .i64 t] := by rw [← hW]; exact Blk.two w 89 105 [.slice V vals.length q1, .slice M miss.length q2] [.int .i64 b, .int .i64 t]
  rw [hW]
  clear hW
  obtain ⟨p, hp⟩ : ∃ p, w.heap.size + 1 = p := ⟨_, rfl⟩
  rw [hp] at hR ⊢
  have hsW := hs.bel hwW
  have hrW := hr.bel hwW
  have hxl := hX.lt
  have hrl := hR.lt
  have c0 := hX.cell 0; have c1 := hX.cell 1; simp only [List.getElem?_cons_zero, List.getElem?_cons_succ] at c0 c1
  have r0 := hR.cell 0; have r1 := hR.cell 1; simp only [List.getElem?_cons_zero, List.getElem?_cons_succ] at r0 r1
  have HX := hide hX
  have HR := hide hR
  clear hX hR hp hs hr
  go_region_held3 (fun w' => (∀ b o, b < W.heap.size → w'.cell? ⟨b, o, none⟩ = W.cell? ⟨b, o, none⟩) ∧ Below W.heap.size W w')
    (first | with_reducible exact kp_refl W | with_reducible exact kp HB1.out | with_reducible exact kp HB3.out | with_reducible exact kp (bel_alloc HB3.out HB3.out.size _))
    (first
      | (go_at_call 120; refine (HLE.out _ (hsW.drewN 1) (hrW.drewN 1)).mono ?_; rintro e w1 ⟨rfl, hbA⟩; have HB1 := hide (bel_tr ((Below.refl W.heap.size W).drew) (Nat.le_refl _) hbA))
      | (go_at_call 124; refine (ruleError_c _ _ _).mono ?_; rintro e w3 ⟨rfl, hbC⟩; have HB3 := hide (bel_tr HB1.out HB1.out.size hbC))
      | (go_at_call 92; refine (firstError_2 _ _ _).mono ?_; rintro e_ w_ ⟨rfl, rfl⟩))
  rw [HF.out]
  obtain ⟨w4, hw4⟩ : ∃ w4, w3.alloc (.cells #[.int .i64 (lineE vals miss), .int .i64 (ruE b t)] 25) = w4 := ⟨_, rfl⟩
  have hB4 : Below W.heap.size W w4 := by rw [← hw4]; exact bel_alloc HB3.out HB3.out.size _
  rw [hw4]
  clear hw4 HB1 HB3 HF HLE
  generalize lineE vals miss = ea
  generalize ruE b t = ec
  generalize pkE vals miss b t = E at e1
  have HAN := hide (fun (k : Nat) (hk : k < vals.length) W' (hb : Below W.heap.size W W') => answer_c V M q1 q2 vals miss k b t W' (hsW.bel hb) (hrW.bel hb) (HOK.out k hk) hb1 hb2 ht1 ht2)
  have HLO := hide (fun (k : Nat) (hk : k < vals.length) W' (hb : Below W.heap.size W W') => low_c V M q1 q2 vals miss k b t w.heap.size p W' (HX.out.bel hb) (HR.out.bel hb) (hsW.bel hb) (hrW.bel hb) (HOK.out k hk) hb1 hb2)
  have k4 := (kp hB4).1
  clear HOK
  go_wp2
  clear k4
  have HLZ := hide (fun (k : Nat) (hk : k < vals.length) (z : Int) (hz : z = k) W' (hb : Below W.heap.size W W') => show Calls Tryd.prog 126 (#[.int .i64 z] ++ #[.pointer (some ⟨w.heap.size, 0, none⟩), .pointer (some ⟨p, 0, none⟩)]) W' _ from hz ▸ HLO.out k hk W' hb)
  clear HLO
  have hzW4 := hB4.size
  obtain ⟨last, hlast⟩ : ∃ last : Nat, vals.length - 1 = last := ⟨_, rfl⟩
  rw [show (vals.length : Int) - 1 = (last : Int) by omega]
  go_loopw [9, 28] (fun v i wr => ∃ k : Nat, k ≤ vals.length ∧ i = .int .i64 k ∧ Below W.heap.size W wr ∧ wr.ownsRow W.heap.size 3 1 v (pkL (peakB vals miss b t) k).length (ints (pkL (peakB vals miss b t) k))) (fun _ i _ => vals.length - (intOf i).toNat)
  case atStart => exact ⟨0, Nat.zero_le _, rfl, hB4, World.ownsRow_nil _ _ _ _⟩
  case round =>
    obtain ⟨k, hk, rfl, hbr, hown⟩ := hrel
    have hle := pkL_le (peakB vals miss b t) k
    by_cases hlt : k < vals.length
    · have kr := (kp hbr).1
      go_upto_region 10 with fail
      have HP : Hid (peakB vals miss b t k = (decide (ansN vals miss k b t = 2) && decide (lvLo vals miss (k - 1) b ≤ lvLo vals miss k b) && decide (lvLo vals miss (min (k + 1) last) b ≤ lvLo vals miss k b))) := by show _ = _; unfold peakB; rw [hlast]
      obtain ⟨m, hm⟩ : ∃ m, min (k + 1) last = m := ⟨_, rfl⟩
      have hm1 : m < vals.length := by omega
      have HM : Hid (last ≤ k → m = last) := fun h => by omega
      have HM2 : Hid (k < last → m = k + 1) := fun h => by omega
      rw [hm] at HP
      have HA := hide (fun W' hb => HAN.out k hlt W' hb)
      have HL1 := hide (fun z hz W' hb => HLZ.out k hlt z hz W' hb)
      have HL2 := hide (fun z hz W' hb => HLZ.out (k - 1) (by omega) z hz W' hb)
      have HL3 := hide (fun z hz W' hb => HLZ.out m hm1 z hz W' hb)
      clear hm HAN HLZ
      generalize ansN vals miss k b t = an at HP HA
      generalize lvLo vals miss k b = lo at HP HL1
      generalize lvLo vals miss (k - 1) b = lo1 at HP HL2
      generalize lvLo vals miss m b = lo2 at HP HL3
      have hwr := bel_tr hbr hbr.size (Below.refl wr.heap.size wr)
      go_cut [58] from 31 to 57 (fun c wx => c = .bool (peakB vals miss b t k) ∧ Below wr.heap.size wr wx)
      case first =>
        by_cases a1 : an = 2
        · have e2 : (an == 2) = true := by simpa using a1
          have A1 := hide a1
          clear a1
          by_cases a2 : lo1 ≤ lo
          · by_cases z1 : k < 1
            all_goals
              by_cases z2 : k < last
              all_goals
                by_cases a3 : lo2 ≤ lo
                · (first | have hmk := hide (HM2.out z2) | have hmk := hide (HM.out (by omega)))
                  go_wp2_with (first
              | (go_at_call 125; refine (HA.out _ hbr).mono ?_; rintro e w5 ⟨rfl, g5⟩; have j5 := bel_tr hbr hbr.size g5; have k5 := (kp j5).1)
              | (go_at_call 126; have _g := j8; refine (HL3.out _ (by rw [hmk.out] <;> omega) _ j8).mono ?_; rintro e w9 ⟨rfl, g9⟩; have j9 := bel_tr j8 j8.size g9)
              | (go_at_call 126; have _g := j7; refine (HL1.out _ (by omega) _ j7).mono ?_; rintro e w8 ⟨rfl, g8⟩; have j8 := bel_tr j7 j7.size g8)
              | (go_at_call 126; have _g := j6; refine (HL2.out _ (by omega) _ j6).mono ?_; rintro e w7 ⟨rfl, g7⟩; have j7 := bel_tr j6 j6.size g7)
              | (go_at_call 126; have _g := j5; refine (HL1.out _ (by omega) _ j5).mono ?_; rintro e w6 ⟨rfl, g6⟩; have j6 := bel_tr j5 j5.size g6))
                  go_meet
                  exact ⟨by rw [HP.out]; first | (simp [A1.out]; done) | (simp [A1.out]; omega), bel_tr (bel_tr (bel_tr (bel_tr g5 g5.size g6) (bel_tr g5 g5.size g6).size g7) (bel_tr (bel_tr g5 g5.size g6) (bel_tr g5 g5.size g6).size g7).size g8) (bel_tr (bel_tr (bel_tr g5 g5.size g6) (bel_tr g5 g5.size g6).size g7) (bel_tr (bel_tr g5 g5.size g6) (bel_tr g5 g5.size g6).size g7).size g8).size g9⟩
                · (first | have hmk := hide (HM2.out z2) | have hmk := hide (HM.out (by omega)))
                  go_wp2_with (first
              | (go_at_call 125; refine (HA.out _ hbr).mono ?_; rintro e w5 ⟨rfl, g5⟩; have j5 := bel_tr hbr hbr.size g5; have k5 := (kp j5).1)
              | (go_at_call 126; have _g := j8; refine (HL3.out _ (by rw [hmk.out] <;> omega) _ j8).mono ?_; rintro e w9 ⟨rfl, g9⟩; have j9 := bel_tr j8 j8.size g9)
              | (go_at_call 126; have _g := j7; refine (HL1.out _ (by omega) _ j7).mono ?_; rintro e w8 ⟨rfl, g8⟩; have j8 := bel_tr j7 j7.size g8)
              | (go_at_call 126; have _g := j6; refine (HL2.out _ (by omega) _ j6).mono ?_; rintro e w7 ⟨rfl, g7⟩; have j7 := bel_tr j6 j6.size g7)
              | (go_at_call 126; have _g := j5; refine (HL1.out _ (by omega) _ j5).mono ?_; rintro e w6 ⟨rfl, g6⟩; have j6 := bel_tr j5 j5.size g6))
                  go_meet
                  exact ⟨by rw [HP.out]; first | (simp [A1.out]; done) | (simp [A1.out]; omega), bel_tr (bel_tr (bel_tr (bel_tr g5 g5.size g6) (bel_tr g5 g5.size g6).size g7) (bel_tr (bel_tr g5 g5.size g6) (bel_tr g5 g5.size g6).size g7).size g8) (bel_tr (bel_tr (bel_tr g5 g5.size g6) (bel_tr g5 g5.size g6).size g7) (bel_tr (bel_tr g5 g5.size g6) (bel_tr g5 g5.size g6).size g7).size g8).size g9⟩
          · by_cases z1 : k < 1
            all_goals
              go_wp2_with (first
              | (go_at_call 125; refine (HA.out _ hbr).mono ?_; rintro e w5 ⟨rfl, g5⟩; have j5 := bel_tr hbr hbr.size g5; have k5 := (kp j5).1)
              | (go_at_call 126; have _g := j6; refine (HL2.out _ (by omega) _ j6).mono ?_; rintro e w7 ⟨rfl, g7⟩; have j7 := bel_tr j6 j6.size g7)
              | (go_at_call 126; have _g := j5; refine (HL1.out _ (by omega) _ j5).mono ?_; rintro e w6 ⟨rfl, g6⟩; have j6 := bel_tr j5 j5.size g6))
              go_meet
              exact ⟨by rw [HP.out]; first | (simp [A1.out]; done) | (simp [A1.out]; omega), bel_tr (bel_tr g5 g5.size g6) (bel_tr g5 g5.size g6).size g7⟩
        · have e2 : (an == 2) = false := by simpa using a1
          have A1 := hide a1
          clear a1
          go_wp2_with (first
              | (go_at_call 125; refine (HA.out _ hbr).mono ?_; rintro e w5 ⟨rfl, g5⟩; have j5 := bel_tr hbr hbr.size g5; have k5 := (kp j5).1))
          go_meet
          exact ⟨by rw [HP.out]; simp [A1.out], g5⟩
      obtain ⟨rfl, hBx⟩ := hcut
      have hbx := bel_tr hbr hbr.size hBx
      have hown := ownsRow_bel hown hBx
      clear HA HL1 HL2 HL3 HP HM HM2 hBx hbr
      cases hpk : peakB vals miss b t k
      · have hF2 := hide (pkL_no hpk)
        clear hpk
        generalize pkL (peakB vals miss b t) k = L at hown hle hF2
        go_wp2
        go_roundw
        case rel => exact ⟨k + 1, by omega, by go_num, hbx, by rw [hF2.out]; exact hown⟩
        case measure => simp [intOf]; omega
      · have hF2 := hide (pkL_yes hpk)
        clear hpk
        generalize pkL (peakB vals miss b t) k = L at hown hle hF2
        go_wp2_with (first | (at_builtin; refine wpList_append_own _ rfl _ _ 22 rfl W.heap.size 3 i0 (.int .i64 0) 1 8 Tryd.underlying22 hi iz0 iz1 iz2 rfl (by decide) _ _ _ rfl (hown.alloc _) ⟨wc.heap.size, 0, none⟩ 1 1 [.int .i64 (k : Int)] rfl rfl (cell_one_new _ _ _) (by simp [Value.oneCell']) (by unfold maxLen; omega) (by omega) (by have := hbx.size; simp; omega) ?_; intro v' w5 hown5 hg5 _))
        have hb5 : Below W.heap.size W w5 := (hbx.alloc hbx.size _).grown hg5 (by have := hbx.size; simp; omega) (fun j hj => (hown.lt j hj).1)
        go_roundw
        case rel => exact ⟨k + 1, by omega, by go_num, hb5, by rw [hF2.out, List.length_append, ints_append]; exact hown5⟩
        case measure => simp [intOf]; omega
    · obtain rfl : k = vals.length := by omega
      obtain ⟨A', c', rfl⟩ := ownsRow_slice hown
      go_wp2
      go_ret2
      exact ⟨⟨A', c', rfl, RdT.of_own hown⟩, bel_tr hwW hwW.size hbr⟩
end Go.Proofs.YthkmeaibppkhmaaDoor
