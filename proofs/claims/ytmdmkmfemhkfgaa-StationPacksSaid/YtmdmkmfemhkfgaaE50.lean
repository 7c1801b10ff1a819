/- The law of there and back. -/
import Derived.Test.YtmdmkmfemhkfgaaE49
set_option linter.unusedSimpArgs false
set_option linter.unusedVariables false
set_option linter.unusedSimpArgs false
set_option linter.unusedVariables false
namespace Go.Proofs.Ytmdmkmfemhkfgaa
open Go.RowKit
set_option maxRecDepth 100000

/-- What was packed is unpacked again. -/
theorem unpacked_packR (l : List Int) (he : serE l = 0) (A : Option Addr) (c : Nat) (w : World) (hr : Rd w A (ints (packR l).2)) (hcap : (packR l).2.length ≤ c) :
    Calls Try.prog 29 #[.agg #[.int .i64 (packR l).1, .slice A (packR l).2.length c]] w fun r w' => (∃ A' c', r = .returned (.tuple #[.slice A' l.length c', .int .i64 0]) ∧ Rd w' A' (ints l)) ∧ Below w.heap.size w w' := by
  obtain ⟨hl, hwi⟩ := serE_zero he
  obtain ⟨hc, _⟩ := packR_cases l
  have h1 := runsL_length l
  have h2 := runsL_length (diffs 0 l)
  rw [diffs_length] at h2
  rcases hc with h | h | h
  · rw [h] at hr hcap ⊢
    exact unpacked_0 l A c w hr hcap he
  · rw [h] at hr hcap ⊢
    refine unpacked_1 (runsL (diffs 0 l)) l A c w hr hcap (by rw [flat_length]; omega) (fun g hg => ?_) (by rw [expand_runsL, diffs_length]; exact hl) (by rw [expand_runsL]; exact sumF_diffs l 0 hwi)
    have := runsL_count _ g hg
    rw [diffs_length] at this
    omega
  · rw [h] at hr hcap ⊢
    have := unpacked_2 (runsL l) A c w hr hcap (by rw [flat_length]; omega) (fun g hg => by have := runsL_count _ g hg; omega) (by rw [expand_runsL]; exact he)
    rw [expand_runsL] at this
    exact this
theorem backLaw_bad (l : List Int) (f s : Int) (A : Option Addr) (c : Nat) (w : World) (hr : Rd w A (ints l)) (hl : l.length ≤ maxLen) (he : serE l ≠ 0) :
    Calls Try.prog 7 #[.slice A l.length c, .int .i64 f, .int .i64 s] w fun r w' => r = .returned (.bool true) ∧ Below w.heap.size w w' := by
  have HSE := hide (fun W (h : Rd W A (ints l)) => refSeriesErr_c A c l W h hl)
  generalize serE l = e at HSE he
  have e1 : (e != 0) = true := by simpa using he
  clear he
  go_enter Try.func7, Try.ntmps7
  go_wp2_with (first
    | (go_at_call 9; refine (awake_c _).mono ?_; rintro e_ w1 ⟨rfl, hb1⟩; have hr1 := hr.bel hb1)
    | (go_at_call 33; refine (HSE.out _ hr1).mono ?_; rintro e_ w2 ⟨rfl, hb2⟩))
  go_ret
  exact ⟨rfl, bel_tr hb1 hb1.size hb2⟩
theorem step_bound {s : Int} (hs : -1000000 ≤ s ∧ s ≤ 1000000) {i : Nat} (hi : i ≤ 200) : -(200000000) ≤ (i : Int) * s ∧ (i : Int) * s ≤ 200000000 := by
  constructor
  · by_cases h : 0 ≤ s
    · have : 0 ≤ (i : Int) * s := Int.mul_nonneg (by omega) h
      omega
    · have := Int.mul_le_mul (show (i : Int) ≤ 200 by omega) (show -s ≤ 1000000 by omega) (by omega) (by omega)
      rw [Int.mul_neg] at this
      omega
  · by_cases h : 0 ≤ s
    · have := Int.mul_le_mul (show (i : Int) ≤ 200 by omega) hs.2 h (by omega)
      omega
    · have : (i : Int) * s ≤ 0 := Int.mul_nonpos_of_nonneg_of_nonpos (by omega) (by omega)
      omega
set_option maxHeartbeats 4000000 in
theorem backLaw_good (l : List Int) (f s : Int) (A : Option Addr) (c : Nat) (w : World) (hr : Rd w A (ints l)) (he : serE l = 0) :
    Calls Try.prog 7 #[.slice A l.length c, .int .i64 f, .int .i64 s] w fun r w' => r = .returned (.bool true) ∧ Below w.heap.size w w' := by
  obtain ⟨i0, hi, iz0, iz1, iz2⟩ := info_parts Try.infoN
  obtain ⟨hl, hwi⟩ := serE_zero he
  have HSE := hide (fun W (h : Rd W A (ints l)) => refSeriesErr_c A c l W h (by unfold maxLen; omega))
  rw [he] at HSE
  have HCI := hide (fun A c (k : List Int) (hk : k.length ≤ 200) W (h : Rd W A (ints k)) => copyInts_c k A c W h (by omega))
  have HPK := hide (fun A c W (h : Rd W A (ints l)) => packed_cap l A c W h (by omega) he)
  have HUN := hide (fun A c W h h' => unpacked_packR l he A c W h h')
  obtain ⟨_, hnl, _⟩ := packR_cases l
  have HII : Hid (∀ (k : List Int) (hk : k.length ≤ 200) A1 c1 A2 c2 W (h : Rd W A1 (ints k)) (h' : Rd W A2 (ints k)), Calls Try.prog 32 #[.slice A1 k.length c1, .slice A2 k.length c2] W fun r w' => r = .returned (.bool true) ∧ Below W.heap.size W w') := fun k hk A1 c1 A2 c2 W h h' => (ints_c k k A1 A2 c1 c2 W h h' (by omega)).mono fun r w' ⟨h1, h2⟩ => ⟨by rw [h1, decide_eq_true rfl], h2⟩
  have HCP := hide (fun A c W h => copyPacked_c (packR l).1 A c (packR l).2 W h (by omega))
  obtain ⟨wy, hwy⟩ : ∃ wy, (packR l).1 = wy := ⟨_, rfl⟩
  obtain ⟨nm, hnm⟩ : ∃ nm, (packR l).2 = nm := ⟨_, rfl⟩
  rw [hwy, hnm] at HPK HUN HCP
  rw [hnm] at hnl
  clear hwy hnm hwi
  have j1 : decide ((l.length : Int) < (nm.length : Int)) = false := decide_eq_false (by omega)
  have j2 : ¬ (l.length : Int) < (nm.length : Int) := by omega
  have hlow := hr.low
  go_enter Try.func7, Try.ntmps7
  go_upto_region 6 with (first
    | (go_at_call 9; refine (awake_c _).mono ?_; rintro e_ w1 ⟨rfl, hb1⟩; have hr1 := hr.bel hb1)
    | (go_at_call 33; refine (HSE.out _ hr1).mono ?_; rintro e_ w2 ⟨rfl, hb2⟩; have hr2 := hr1.bel hb2)
    | (go_at_call 28; refine (HCI.out _ _ l hl _ hr2).mono ?_; rintro e_ w3 ⟨⟨A3, c3, rfl, ra3⟩, hb3⟩; have hr3 := hr2.bel hb3)
    | (go_at_call 27; refine (HPK.out _ _ _ ra3.1).mono ?_; rintro e_ w4 ⟨⟨A4, c4, rfl, ra4, rk4⟩, hb4⟩))
  obtain ⟨p, hp⟩ : ∃ p, w4.heap.size = p := ⟨_, rfl⟩
  obtain ⟨w5, hw5⟩ : ∃ w5, w4.alloc (.cells #[.int .i64 wy, .slice A4 nm.length c4] 54) = w5 := ⟨_, rfl⟩
  have hX5 : Blk w5 p 54 [.int .i64 wy, .slice A4 nm.length c4] := by rw [← hw5, ← hp]; exact Blk.new w4 _ [_, _]
  have hb5 : Below w4.heap.size w4 w5 := by rw [← hw5]; exact alloc_bel _ _
  have hB2 : Below w.heap.size w w2 := bel_tr hb1 hb1.size hb2
  have hB3 : Below w.heap.size w w3 := bel_tr hB2 hB2.size hb3
  have hB4 : Below w.heap.size w w4 := bel_tr hB3 hB3.size hb4
  have hB5 : Below w.heap.size w w5 := bel_tr hB4 hB4.size hb5
  have hr5 := (hr3.bel hb4).bel hb5
  have ra5 := ra4.1.bel hb5
  have hpw : w.heap.size ≤ p := by rw [← hp]; exact hB4.size
  try rw [hp]
  rw [hw5]
  clear hw5 hb1 hb2 hb3 hb4 hb5 hr1 hr2 hr3 ra3 ra4 hB2 hB3 hB4 hp
  have c0 := hX5.cell 0; have c1 := hX5.cell 1; simp only [List.getElem?_cons_zero, List.getElem?_cons_succ] at c0 c1
  go_upto_region 9 with (first
    | (go_at_call 30; refine (HCP.out _ _ _ ra5).mono ?_; rintro e_ w6 ⟨⟨A6, c6, rfl, ra6, rk6⟩, hb6⟩)
    | (go_at_call 29; refine (HUN.out _ _ _ ra6 rk6).mono ?_; rintro e_ w7 ⟨⟨A7, c7, rfl, ra7⟩, hb7⟩))
  have hX7 := (hX5.bel hb6).bel hb7
  have hr7 := (hr5.bel hb6).bel hb7
  have hB6 : Below w.heap.size w w6 := bel_tr hB5 hB5.size hb6
  have hB7 : Below w.heap.size w w7 := bel_tr hB6 hB6.size hb7
  clear c0 c1 hX5 hr5 hB5 hB6 hb6 hb7 ra5 ra6 rk6
  go_upto_region 11 with (first
    | (go_at_call 32; refine (HII.out l hl _ _ _ _ _ ra7 hr7).mono ?_; rintro e_ w8 ⟨rfl, hb8⟩))
  have hX8 := hX7.bel hb8
  have hr8 := hr7.bel hb8
  have hB8 : Below w.heap.size w w8 := bel_tr hB7 hB7.size hb8
  clear hX7 hr7 hB7 hb8 ra7
  cases hf : outB f (-1000000) 1000000
  case true =>
    have HWF := hide (fun W => within_c f (-1000000) 1000000 W)
    rw [hf] at HWF
    clear hf
    refine WL.region ?_
    refine WL.take (by kernel_rfl) (fun K hK => ?_)
    go_simp
    refine hK _ _ ?_
    clear hK K
    refine WL.take (by kernel_rfl) (fun K hK => ?_)
    go_simp
    refine (HWF.out _).mono ?_
    rintro e_ w_ ⟨rfl, rfl⟩
    try dsimp only
    refine hK _ _ ?_
    clear hK K
    refine WL.take (by kernel_rfl) (fun K hK => ?_)
    go_simp
    refine hK _ _ ?_
    clear hK K
    refine WL.take (by kernel_rfl) (fun K hK => ?_)
    go_simp
    refine hK _ _ ?_
    clear hK K
    refine WL.skip (by kernel_rfl) ?_
    simp only [Act.put, List.getElem_toArray, List.getElem_cons_zero, List.getElem_cons_succ, List.setIfInBounds_toArray, List.set_cons_zero, List.set_cons_succ]
    refine WL.skip (by kernel_rfl) ?_
    simp only [Act.put, List.getElem_toArray, List.getElem_cons_zero, List.getElem_cons_succ, List.setIfInBounds_toArray, List.set_cons_zero, List.set_cons_succ]
    refine WL.skip (by kernel_rfl) ?_
    simp only [Act.put, List.getElem_toArray, List.getElem_cons_zero, List.getElem_cons_succ, List.setIfInBounds_toArray, List.set_cons_zero, List.set_cons_succ]
    refine WL.take (by kernel_rfl) (fun K hK => ?_)
    go_simp
    refine hK _ _ ?_
    clear hK K
    refine WL.nil ?_
    go_wp2
    go_ret
    exact ⟨rfl, hB8⟩
  cases hs : outB s (-1000000) 1000000
  case true =>
    have HWF := hide (fun W => within_c f (-1000000) 1000000 W)
    rw [hf] at HWF
    have HWS := hide (fun W => within_c s (-1000000) 1000000 W)
    rw [hs] at HWS
    clear hf hs
    refine WL.region ?_
    refine WL.take (by kernel_rfl) (fun K hK => ?_)
    go_simp
    refine hK _ _ ?_
    clear hK K
    refine WL.take (by kernel_rfl) (fun K hK => ?_)
    go_simp
    refine (HWF.out _).mono ?_
    rintro e_ w_ ⟨rfl, rfl⟩
    try dsimp only
    refine hK _ _ ?_
    clear hK K
    refine WL.take (by kernel_rfl) (fun K hK => ?_)
    go_simp
    refine hK _ _ ?_
    clear hK K
    refine WL.take (by kernel_rfl) (fun K hK => ?_)
    go_simp
    refine hK _ _ ?_
    clear hK K
    refine WL.take (by kernel_rfl) (fun K hK => ?_)
    go_simp
    refine hK _ _ ?_
    clear hK K
    refine WL.take (by kernel_rfl) (fun K hK => ?_)
    go_simp
    refine (HWS.out _).mono ?_
    rintro e_ w_ ⟨rfl, rfl⟩
    try dsimp only
    refine hK _ _ ?_
    clear hK K
    refine WL.take (by kernel_rfl) (fun K hK => ?_)
    go_simp
    refine hK _ _ ?_
    clear hK K
    refine WL.take (by kernel_rfl) (fun K hK => ?_)
    go_simp
    refine hK _ _ ?_
    clear hK K
    refine WL.nil ?_
    go_wp2
    go_ret
    exact ⟨rfl, hB8⟩
  have HWF := hide (fun W => within_c f (-1000000) 1000000 W)
  rw [hf] at HWF
  have HWS := hide (fun W => within_c s (-1000000) 1000000 W)
  rw [hs] at HWS
  have hfb := outB_false.1 hf
  have hsb := outB_false.1 hs
  clear hf hs
  refine WL.region ?_
  refine WL.take (by kernel_rfl) (fun K hK => ?_)
  go_simp
  refine hK _ _ ?_
  clear hK K
  refine WL.take (by kernel_rfl) (fun K hK => ?_)
  go_simp
  refine (HWF.out _).mono ?_
  rintro e_ w_ ⟨rfl, rfl⟩
  try dsimp only
  refine hK _ _ ?_
  clear hK K
  refine WL.take (by kernel_rfl) (fun K hK => ?_)
  go_simp
  refine hK _ _ ?_
  clear hK K
  refine WL.take (by kernel_rfl) (fun K hK => ?_)
  go_simp
  refine hK _ _ ?_
  clear hK K
  refine WL.take (by kernel_rfl) (fun K hK => ?_)
  go_simp
  refine hK _ _ ?_
  clear hK K
  refine WL.take (by kernel_rfl) (fun K hK => ?_)
  go_simp
  refine (HWS.out _).mono ?_
  rintro e_ w_ ⟨rfl, rfl⟩
  try dsimp only
  refine hK _ _ ?_
  clear hK K
  refine WL.take (by kernel_rfl) (fun K hK => ?_)
  go_simp
  refine hK _ _ ?_
  clear hK K
  refine WL.take (by kernel_rfl) (fun K hK => ?_)
  go_simp
  refine hK _ _ ?_
  clear hK K
  refine WL.nil ?_
  clear HWF HWS
  go_wp2
  have hE0 := hide (serE_within (l := evenL f s l.length) (by rw [evenL_length]; exact hl) (evenL_within hfb hsb hl))
  have HPK2 := hide (fun A c W (h : Rd W A (ints (evenL f s l.length))) => packed_cap (evenL f s l.length) A c W h (by rw [evenL_length]; omega) hE0.out)
  have HUN2 := hide (fun A c W h h' => unpacked_packR (evenL f s l.length) hE0.out A c W h h')
  obtain ⟨hp4, hp2⟩ := packR_even f s l.length
  obtain ⟨wy2, hwy⟩ : ∃ wy, (packR (evenL f s l.length)).1 = wy := ⟨_, rfl⟩
  obtain ⟨nm2, hnm⟩ : ∃ nm, (packR (evenL f s l.length)).2 = nm := ⟨_, rfl⟩
  rw [hwy, hnm] at HPK2 HUN2
  rw [hnm] at hp4 hp2
  have hp2' := hide hp2
  clear hwy hnm hp2
  go_loopw [11, 12] (fun v x wr => ∃ k : Nat, k ≤ l.length ∧ x = .int .i64 k ∧ Below w8.heap.size w8 wr ∧ wr.ownsRow w8.heap.size 3 1 v (evenL f s k).length (ints (evenL f s k))) (fun _ x _ => l.length - (intOf x).toNat)
  case atStart => exact ⟨0, Nat.zero_le _, rfl, Below.refl _ _, World.ownsRow_nil _ _ _ _⟩
  case round =>
    obtain ⟨k, hk, rfl, hbr, hown⟩ := hrel
    by_cases hlt : k < l.length
    · have iL : (k : Int) < (l.length : Int) := by omega
      obtain ⟨hq1, hq2⟩ := step_bound hsb (show k ≤ 200 by omega)
      have u1 : IntKind.i64.wrap ((k : Int) * s) = (k : Int) * s := by simp (disch := omega) only [IntWalk.i64_in]
      have u2 : IntKind.i64.wrap (f + (k : Int) * s) = f + (k : Int) * s := by simp (disch := omega) only [IntWalk.i64_in]
      have hEv := hide (evenL_succ f s k)
      have hlen := evenL_length f s k
      generalize evenL f s k = ev at hown hEv hlen
      obtain ⟨A9, c9, rfl⟩ := ownsRow_slice hown
      go_wp2_with (first | (at_builtin; refine wpList_append_own _ rfl _ _ 47 rfl w8.heap.size 3 i0 _ 1 8 Try.underlying47 hi iz0 iz1 iz2 rfl (by decide) _ _ _ rfl (hown.alloc _) ⟨wr.heap.size, 0, none⟩ 1 1 [.int .i64 (f + (k : Int) * s)] rfl rfl (World.news_of_block (heap_alloc_new wr _)) (by simp [Value.oneCell']) (by unfold maxLen; omega) (by omega) (by have := hbr.size; simp; omega) ?_; intro v' w9 hown9 hg9 _))
      have hb9 : Below w8.heap.size w8 w9 := (bel_alloc hbr hbr.size _).grown hg9 (by have := hbr.size; simp; omega) (fun j hj => by have := (hown.lt j hj).1; omega)
      go_roundw
      case rel => exact ⟨k + 1, by omega, by go_num, hb9, by rw [hEv.out, ints_append, List.length_append]; exact hown9⟩
      case measure => simp [intOf]; omega
    · obtain rfl : k = l.length := by omega
      have hevl : Hid ((evenL f s l.length).length ≤ 200) := by show _ ≤ _; rw [evenL_length]; exact hl
      generalize evenL f s l.length = ev at hown HPK2 HUN2 hevl
      obtain ⟨A9, c9, rfl⟩ := ownsRow_slice hown
      have hXr := hX8.bel hbr
      have hBr : Below w.heap.size w wr := bel_tr hB8 hB8.size hbr
      have rev := RdT.of_own hown
      have hpr := hXr.lt
      clear hown hX8 hB8 hbr hr8
      go_upto_region 18 with fail
      have hXf0 := hXr.frozen 0
      go_upto_region 19 with (first
        | (go_at_call 28; refine (HCI.out _ _ ev hevl.out _ rev.1).mono ?_; rintro e_ w10 ⟨⟨A10, c10, rfl, ra10⟩, hb10⟩; have rev10 := rev.bel hb10; have hX10 := hXr.bel hb10)
        | (go_at_call 27; refine (HPK2.out _ _ _ ra10.1).mono ?_; rintro e_ w11 ⟨⟨A11, c11, rfl, ra11, rk11⟩, hb11⟩; have hX11 := hX10.bel hb11; have k0 := hX11.cell 0; have k1 := hX11.cell 1; have k2 := hX11.frozen 0; have k3 := hX11.frozen 1; have k4 := hX11.lt; simp only [List.getElem?_cons_zero, List.getElem?_cons_succ] at k0 k1))
      obtain ⟨WE, hWE⟩ : ∃ WE, (w11.setCell ⟨p, 0, none⟩ (.int .i64 wy2)).setCell ⟨p, 1, none⟩ (.slice A11 nm2.length c11) = WE := ⟨_, rfl⟩
      have hXE : Blk WE p 54 [.int .i64 wy2, .slice A11 nm2.length c11] := by rw [← hWE]; exact (hX11.set_ 0 _).set_ 1 _
      have raE : RdT WE 3 A11 (ints nm2) := by rw [← hWE]; exact (ra11.set hX11 (by decide) 0 _).set (hX11.set_ 0 _) (by decide) 1 _
      have revE : RdT WE 3 A9 (ints ev) := by rw [← hWE]; exact ((rev10.bel hb11).set hX11 (by decide) 0 _).set (hX11.set_ 0 _) (by decide) 1 _
      have hB10 : Below w.heap.size w w10 := bel_tr hBr hBr.size hb10
      have hBE : Below w.heap.size w WE := by rw [← hWE]; exact ((bel_tr hB10 hB10.size hb11).setCell hpw _).setCell hpw _
      rw [hWE]
      clear hWE k0 k1 k2 k3 k4 hX11 hX10 hXr hXf0 rev rev10 ra10 ra11 hb10 hb11 hBr hB10
      have z0 := hXE.cell 0; have z1 := hXE.cell 1; simp only [List.getElem?_cons_zero, List.getElem?_cons_succ] at z0 z1
      have j3 : decide ((4 : Int) < (nm2.length : Int)) = false := decide_eq_false (by omega)
      have j4 : ¬ (4 : Int) < (nm2.length : Int) := by omega
      by_cases hs0 : s = 0
      · have hs1 : (s == 0) = true := by simpa using hs0
        have hs2 := hp2'.out hs0
        have j5 : decide ((2 : Int) < (nm2.length : Int)) = false := decide_eq_false (by omega)
        have j6 : ¬ (2 : Int) < (nm2.length : Int) := by omega
        clear hs0 hs2
        refine WL.region ?_
        refine WL.take (by kernel_rfl) (fun K hK => ?_)
        go_simp
        refine hK _ _ ?_
        clear hK K
        refine WL.take (by kernel_rfl) (fun K hK => ?_)
        go_simp
        refine hK _ _ ?_
        clear hK K
        refine WL.take (by kernel_rfl) (fun K hK => ?_)
        go_simp
        refine hK _ _ ?_
        clear hK K
        refine WL.take (by kernel_rfl) (fun K hK => ?_)
        go_simp
        refine hK _ _ ?_
        clear hK K
        refine WL.take (by kernel_rfl) (fun K hK => ?_)
        go_simp
        refine hK _ _ ?_
        clear hK K
        refine WL.take (by kernel_rfl) (fun K hK => ?_)
        go_simp
        refine hK _ _ ?_
        clear hK K
        refine WL.take (by kernel_rfl) (fun K hK => ?_)
        go_simp
        refine hK _ _ ?_
        clear hK K
        refine WL.take (by kernel_rfl) (fun K hK => ?_)
        go_simp
        refine hK _ _ ?_
        clear hK K
        refine WL.take (by kernel_rfl) (fun K hK => ?_)
        go_simp
        refine hK _ _ ?_
        clear hK K
        refine WL.take (by kernel_rfl) (fun K hK => ?_)
        go_simp
        refine hK _ _ ?_
        clear hK K
        refine WL.take (by kernel_rfl) (fun K hK => ?_)
        go_simp
        refine hK _ _ ?_
        clear hK K
        refine WL.take (by kernel_rfl) (fun K hK => ?_)
        go_simp
        refine hK _ _ ?_
        clear hK K
        refine WL.take (by kernel_rfl) (fun K hK => ?_)
        go_simp
        refine hK _ _ ?_
        clear hK K
        refine WL.take (by kernel_rfl) (fun K hK => ?_)
        go_simp
        refine hK _ _ ?_
        clear hK K
        refine WL.take (by kernel_rfl) (fun K hK => ?_)
        go_simp
        refine hK _ _ ?_
        clear hK K
        refine WL.take (by kernel_rfl) (fun K hK => ?_)
        go_simp
        refine hK _ _ ?_
        clear hK K
        refine WL.take (by kernel_rfl) (fun K hK => ?_)
        go_simp
        refine hK _ _ ?_
        clear hK K
        refine WL.take (by kernel_rfl) (fun K hK => ?_)
        go_simp
        refine hK _ _ ?_
        clear hK K
        refine WL.nil ?_
        go_upto_region 22 with (first
          | (go_at_call 29; refine (HUN2.out _ _ _ raE.1 rk11).mono ?_; rintro e_ w12 ⟨⟨A12, c12, rfl, ra12⟩, hb12⟩))
        have rev12 := revE.bel hb12
        have hB12 : Below w.heap.size w w12 := bel_tr hBE hBE.size hb12
        clear z0 z1
        go_wp2_with (first | (go_at_call 32; refine (HII.out ev hevl.out _ _ _ _ _ ra12 rev12.1).mono ?_; rintro e_ w13 ⟨rfl, hb13⟩))
        go_ret
        exact ⟨rfl, bel_tr hB12 hB12.size hb13⟩
      · have hs1 : (s == 0) = false := by simpa using hs0
        clear hs0
        refine WL.region ?_
        refine WL.take (by kernel_rfl) (fun K hK => ?_)
        go_simp
        refine hK _ _ ?_
        clear hK K
        refine WL.take (by kernel_rfl) (fun K hK => ?_)
        go_simp
        refine hK _ _ ?_
        clear hK K
        refine WL.take (by kernel_rfl) (fun K hK => ?_)
        go_simp
        refine hK _ _ ?_
        clear hK K
        refine WL.take (by kernel_rfl) (fun K hK => ?_)
        go_simp
        refine hK _ _ ?_
        clear hK K
        refine WL.take (by kernel_rfl) (fun K hK => ?_)
        go_simp
        refine hK _ _ ?_
        clear hK K
        refine WL.take (by kernel_rfl) (fun K hK => ?_)
        go_simp
        refine hK _ _ ?_
        clear hK K
        refine WL.take (by kernel_rfl) (fun K hK => ?_)
        go_simp
        refine hK _ _ ?_
        clear hK K
        refine WL.take (by kernel_rfl) (fun K hK => ?_)
        go_simp
        refine hK _ _ ?_
        clear hK K
        refine WL.take (by kernel_rfl) (fun K hK => ?_)
        go_simp
        refine hK _ _ ?_
        clear hK K
        refine WL.take (by kernel_rfl) (fun K hK => ?_)
        go_simp
        refine hK _ _ ?_
        clear hK K
        refine WL.take (by kernel_rfl) (fun K hK => ?_)
        go_simp
        refine hK _ _ ?_
        clear hK K
        refine WL.take (by kernel_rfl) (fun K hK => ?_)
        go_simp
        refine hK _ _ ?_
        clear hK K
        refine WL.skip (by kernel_rfl) ?_
        simp only [Act.put, List.getElem_toArray, List.getElem_cons_zero, List.getElem_cons_succ, List.setIfInBounds_toArray, List.set_cons_zero, List.set_cons_succ]
        refine WL.skip (by kernel_rfl) ?_
        simp only [Act.put, List.getElem_toArray, List.getElem_cons_zero, List.getElem_cons_succ, List.setIfInBounds_toArray, List.set_cons_zero, List.set_cons_succ]
        refine WL.skip (by kernel_rfl) ?_
        simp only [Act.put, List.getElem_toArray, List.getElem_cons_zero, List.getElem_cons_succ, List.setIfInBounds_toArray, List.set_cons_zero, List.set_cons_succ]
        refine WL.skip (by kernel_rfl) ?_
        simp only [Act.put, List.getElem_toArray, List.getElem_cons_zero, List.getElem_cons_succ, List.setIfInBounds_toArray, List.set_cons_zero, List.set_cons_succ]
        refine WL.take (by kernel_rfl) (fun K hK => ?_)
        go_simp
        refine hK _ _ ?_
        clear hK K
        refine WL.take (by kernel_rfl) (fun K hK => ?_)
        go_simp
        refine hK _ _ ?_
        clear hK K
        refine WL.nil ?_
        go_upto_region 22 with (first
          | (go_at_call 29; refine (HUN2.out _ _ _ raE.1 rk11).mono ?_; rintro e_ w12 ⟨⟨A12, c12, rfl, ra12⟩, hb12⟩))
        have rev12 := revE.bel hb12
        have hB12 : Below w.heap.size w w12 := bel_tr hBE hBE.size hb12
        clear z0 z1
        go_wp2_with (first | (go_at_call 32; refine (HII.out ev hevl.out _ _ _ _ _ ra12 rev12.1).mono ?_; rintro e_ w13 ⟨rfl, hb13⟩))
        go_ret
        exact ⟨rfl, bel_tr hB12 hB12.size hb13⟩
theorem backLaw_c (l : List Int) (f s : Int) (A : Option Addr) (c : Nat) (w : World) (hr : Rd w A (ints l)) (hl : l.length ≤ maxLen) :
    Calls Try.prog 7 #[.slice A l.length c, .int .i64 f, .int .i64 s] w fun r w' => r = .returned (.bool true) ∧ Below w.heap.size w w' := by
  by_cases he : serE l = 0
  · exact backLaw_good l f s A c w hr he
  · exact backLaw_bad l f s A c w hr hl he
end Go.Proofs.Ytmdmkmfemhkfgaa
