/- The law CodeWhateverLost: a copy that the call owns; the ways that end before the line is made. -/
import Derived.Test.YthkmeaibppkhmaaDoorL12
import Derived.Test.YthkmeaibppkhmaaDoorMathD
namespace Go.Proofs.YthkmeaibppkhmaaDoor
open Go.RowKit
set_option maxRecDepth 100000

theorem copyGaussesO_c (l : List (Int × Int)) (A : Option Addr) (c : Nat) (w : World) (hr : Rd w A (gs l)) (hl : l.length ≤ 100000) (h1 : 1 ≤ l.length) :
    Calls Tryd.prog 61 #[.slice A l.length c] w fun r w' => (∃ g c', r = .returned (.slice (some ⟨g, 0, none⟩) l.length c') ∧ w.heap.size ≤ g ∧ w'.ownsRow w.heap.size 76 2 (.slice (some ⟨g, 0, none⟩) l.length c') l.length (gs l)) ∧ Below w.heap.size w w' := by
  obtain ⟨i0, hi, iz0, iz1, iz2⟩ := info_parts Tryd.info76
  go_enter Tryd.func61, Tryd.ntmps61
  go_wp2_with (first | (at_builtin; refine wpList_append_rd _ rfl _ _ 30 rfl w.heap.size 76 i0 _ 2 16 Tryd.underlying30 hi iz0 iz1 iz2 rfl (by decide) (.slice (some ⟨w.heap.size, 0, none⟩) 0 0) 0 [] rfl (World.ownsRow_made w #[] 0 (Nat.le_refl _) (by unfold maxLen; omega) rfl) A l.length c (gs l) rfl (by simp) (hr.alloc _) (gs_one l) (by unfold maxLen; omega) (by omega) (by simp) ?_; intro v' w1 hown1 hg1))
  have hb : Below w.heap.size w w1 := ((Below.refl _ _).alloc (Nat.le_refl _) (.cells #[] 76)).grown hg1 (by simp) (by simp [Value.ownBlock])
  rw [Nat.zero_add, List.nil_append] at hown1
  obtain ⟨g, c', rfl, hg⟩ : ∃ g c', v' = .slice (some ⟨g, 0, none⟩) l.length c' ∧ w.heap.size ≤ g := by
    rcases hown1.2 with ⟨_, h0⟩ | ⟨g, cap, cur, rfl, hg, _⟩
    · omega
    · exact ⟨g, cap, rfl, hg⟩
  go_ret
  exact ⟨⟨g, c', rfl, hg, hown1⟩, hb⟩


set_option maxHeartbeats 4000000 in
theorem lost_true (gain limit : Int) (A G B D : Option Addr) (cA c cB cD : Nat) (samples wave were : List (Int × Int)) (gaps : List Int) (b t : Int) (w : World) (hT : Tab w) (hs : Rd w A (gs samples)) (hr : Rd w G (ints gaps)) (hv : Rd w B (gs wave)) (fb : Bool) (FE WE RE : Int)
    (HF : Hid (∀ W, Calls Tryd.prog 54 #[.agg #[.int .i64 gain, .int .i64 limit, .slice A samples.length cA, .slice G gaps.length c]] W fun r w' => r = .returned (.bool fb) ∧ Below W.heap.size W w'))
    (HFE : Hid (∀ W, Rd W A (gs samples) → Rd W G (ints gaps) → Calls Tryd.prog 62 #[.agg #[.int .i64 gain, .int .i64 limit, .slice A samples.length cA, .slice G gaps.length c]] W fun r w' => r = .returned (.int .i64 FE) ∧ Below W.heap.size W w'))
    (HWE : Hid (∀ W, Rd W B (gs wave) → Calls Tryd.prog 63 #[.slice B wave.length cB] W fun r w' => r = .returned (.int .i64 WE) ∧ Below W.heap.size W w'))
    (HRE : Hid (∀ W, Calls Tryd.prog 74 #[.agg #[.int .i64 b, .int .i64 t]] W fun r w' => r = .returned (.int .i64 RE) ∧ Below W.heap.size W w'))
    (h : fb = false ∨ FE ≠ 0 ∨ 32 < wave.length ∨ WE ≠ 0 ∨ samples.length < wave.length ∨ were.length ≠ samples.length ∨ RE ≠ 0 ∨ 1999990 < b) :
    Calls Tryd.prog 13 #[.agg #[.int .i64 gain, .int .i64 limit, .slice A samples.length cA, .slice G gaps.length c], .agg #[.slice B wave.length cB, .slice D were.length cD], .agg #[.int .i64 b, .int .i64 t]] w fun r w' => r = .returned (.bool true) ∧ Below w.heap.size w w' := by
  cases fb
  · clear h
    go_enter Tryd.func13, Tryd.ntmps13
    go_upto_region 1 with fail
    obtain ⟨W, hW⟩ : ∃ W, ((w.alloc (.cells #[.int .i64 gain, .int .i64 limit, .slice A samples.length cA, .slice G gaps.length c] 81)).alloc (.cells #[.slice B wave.length cB, .slice D were.length cD] 119)).alloc (.cells #[.int .i64 b, .int .i64 t] 105) = W := ⟨_, rfl⟩
    have hwW : Below w.heap.size w W := by rw [← hW]; exact ((alloc_bel _ _).alloc (by simp) _).alloc (by simp; omega) _
    have hX : Blk W w.heap.size 81 [.int .i64 gain, .int .i64 limit, .slice A samples.length cA, .slice G gaps.length c] := by rw [← hW]; exact ((Blk.new w _ [_, _, _, _]).bel (alloc_bel _ _)).bel (alloc_bel _ _)
    have hY : Blk W (w.heap.size + 1) 119 [.slice B wave.length cB, .slice D were.length cD] := by rw [← hW]; exact (Blk.new2 w 81 119 [.int .i64 gain, .int .i64 limit, .slice A samples.length cA, .slice G gaps.length c] [.slice B wave.length cB, .slice D were.length cD]).bel (alloc_bel _ _)
    have hR : Blk W (w.heap.size + 1 + 1) 105 [.int .i64 b, .int .i64 t] := by rw [← hW]; exact Blk.new3 w 81 119 105 [.int .i64 gain, .int .i64 limit, .slice A samples.length cA, .slice G gaps.length c] [.slice B wave.length cB, .slice D were.length cD] [.int .i64 b, .int .i64 t]
    rw [hW]
    clear hW
    obtain ⟨p, hp⟩ : ∃ p, w.heap.size + 1 = p := ⟨_, rfl⟩
    rw [hp] at hY hR ⊢
    obtain ⟨q, hq⟩ : ∃ q, p + 1 = q := ⟨_, rfl⟩
    rw [hq] at hR ⊢
    have hTW := hT.bel hwW
    have hsW := hs.bel hwW
    have hrW := hr.bel hwW
    have hvW := hv.bel hwW
    have hxl := hX.lt
    have hyl := hY.lt
    have hrl := hR.lt
    have c0 := hX.cell 0; have c1 := hX.cell 1; have c2 := hX.cell 2; have c3 := hX.cell 3; simp only [List.getElem?_cons_zero, List.getElem?_cons_succ] at c0 c1 c2 c3
    have y0 := hY.cell 0; have y1 := hY.cell 1; simp only [List.getElem?_cons_zero, List.getElem?_cons_succ] at y0 y1
    have r0 := hR.cell 0; have r1 := hR.cell 1; simp only [List.getElem?_cons_zero, List.getElem?_cons_succ] at r0 r1
    clear hX hY hR hp hq hT hs hr hv
    go_wp2_with (first
        | (go_at_call 15; refine (awake_c _ hTW).mono ?_; rintro e w1 ⟨rfl, hb1⟩; have k1 := (kp hb1).1)
        | (go_at_call 54; refine (HF.out _).mono ?_; rintro e w2 ⟨rfl, hb2⟩; have hB2 := bel_tr hb1 hb1.size hb2; have k2 := (kp hB2).1)
        | (go_at_call 62; refine (HFE.out _ (hsW.bel hB2) (hrW.bel hB2)).mono ?_; rintro e w3 ⟨rfl, hb3⟩; have hB3 := bel_tr hB2 hB2.size hb3; have k3 := (kp hB3).1)
        | (go_at_call 63; refine (HWE.out _ (hvW.bel hB3)).mono ?_; rintro e w4 ⟨rfl, hb4⟩; have hB4 := bel_tr hB3 hB3.size hb4; have k4 := (kp hB4).1)
        | (go_at_call 74; refine (HRE.out _).mono ?_; rintro e w5 ⟨rfl, hb5⟩; have hB5 := bel_tr hB4 hB4.size hb5; have k5 := (kp hB5).1)
      )
    go_ret
    exact ⟨rfl, bel_tr hwW hwW.size hB2⟩
  by_cases h1 : FE = 0
  case neg =>
    have e1 : (FE != 0) = true := by simpa using h1
    clear h h1
    go_enter Tryd.func13, Tryd.ntmps13
    go_upto_region 1 with fail
    obtain ⟨W, hW⟩ : ∃ W, ((w.alloc (.cells #[.int .i64 gain, .int .i64 limit, .slice A samples.length cA, .slice G gaps.length c] 81)).alloc (.cells #[.slice B wave.length cB, .slice D were.length cD] 119)).alloc (.cells #[.int .i64 b, .int .i64 t] 105) = W := ⟨_, rfl⟩
    have hwW : Below w.heap.size w W := by rw [← hW]; exact ((alloc_bel _ _).alloc (by simp) _).alloc (by simp; omega) _
    have hX : Blk W w.heap.size 81 [.int .i64 gain, .int .i64 limit, .slice A samples.length cA, .slice G gaps.length c] := by rw [← hW]; exact ((Blk.new w _ [_, _, _, _]).bel (alloc_bel _ _)).bel (alloc_bel _ _)
    have hY : Blk W (w.heap.size + 1) 119 [.slice B wave.length cB, .slice D were.length cD] := by rw [← hW]; exact (Blk.new2 w 81 119 [.int .i64 gain, .int .i64 limit, .slice A samples.length cA, .slice G gaps.length c] [.slice B wave.length cB, .slice D were.length cD]).bel (alloc_bel _ _)
    have hR : Blk W (w.heap.size + 1 + 1) 105 [.int .i64 b, .int .i64 t] := by rw [← hW]; exact Blk.new3 w 81 119 105 [.int .i64 gain, .int .i64 limit, .slice A samples.length cA, .slice G gaps.length c] [.slice B wave.length cB, .slice D were.length cD] [.int .i64 b, .int .i64 t]
    rw [hW]
    clear hW
    obtain ⟨p, hp⟩ : ∃ p, w.heap.size + 1 = p := ⟨_, rfl⟩
    rw [hp] at hY hR ⊢
    obtain ⟨q, hq⟩ : ∃ q, p + 1 = q := ⟨_, rfl⟩
    rw [hq] at hR ⊢
    have hTW := hT.bel hwW
    have hsW := hs.bel hwW
    have hrW := hr.bel hwW
    have hvW := hv.bel hwW
    have hxl := hX.lt
    have hyl := hY.lt
    have hrl := hR.lt
    have c0 := hX.cell 0; have c1 := hX.cell 1; have c2 := hX.cell 2; have c3 := hX.cell 3; simp only [List.getElem?_cons_zero, List.getElem?_cons_succ] at c0 c1 c2 c3
    have y0 := hY.cell 0; have y1 := hY.cell 1; simp only [List.getElem?_cons_zero, List.getElem?_cons_succ] at y0 y1
    have r0 := hR.cell 0; have r1 := hR.cell 1; simp only [List.getElem?_cons_zero, List.getElem?_cons_succ] at r0 r1
    clear hX hY hR hp hq hT hs hr hv
    go_wp2_with (first
        | (go_at_call 15; refine (awake_c _ hTW).mono ?_; rintro e w1 ⟨rfl, hb1⟩; have k1 := (kp hb1).1)
        | (go_at_call 54; refine (HF.out _).mono ?_; rintro e w2 ⟨rfl, hb2⟩; have hB2 := bel_tr hb1 hb1.size hb2; have k2 := (kp hB2).1)
        | (go_at_call 62; refine (HFE.out _ (hsW.bel hB2) (hrW.bel hB2)).mono ?_; rintro e w3 ⟨rfl, hb3⟩; have hB3 := bel_tr hB2 hB2.size hb3; have k3 := (kp hB3).1)
        | (go_at_call 63; refine (HWE.out _ (hvW.bel hB3)).mono ?_; rintro e w4 ⟨rfl, hb4⟩; have hB4 := bel_tr hB3 hB3.size hb4; have k4 := (kp hB4).1)
        | (go_at_call 74; refine (HRE.out _).mono ?_; rintro e w5 ⟨rfl, hb5⟩; have hB5 := bel_tr hB4 hB4.size hb5; have k5 := (kp hB5).1)
      )
    go_ret
    exact ⟨rfl, bel_tr hwW hwW.size hB3⟩
  subst h1
  by_cases h2 : 32 < wave.length
  · have e1 : decide ((32 : Int) < (wave.length : Int)) = true := by simp; omega
    clear h h2
    go_enter Tryd.func13, Tryd.ntmps13
    go_upto_region 1 with fail
    obtain ⟨W, hW⟩ : ∃ W, ((w.alloc (.cells #[.int .i64 gain, .int .i64 limit, .slice A samples.length cA, .slice G gaps.length c] 81)).alloc (.cells #[.slice B wave.length cB, .slice D were.length cD] 119)).alloc (.cells #[.int .i64 b, .int .i64 t] 105) = W := ⟨_, rfl⟩
    have hwW : Below w.heap.size w W := by rw [← hW]; exact ((alloc_bel _ _).alloc (by simp) _).alloc (by simp; omega) _
    have hX : Blk W w.heap.size 81 [.int .i64 gain, .int .i64 limit, .slice A samples.length cA, .slice G gaps.length c] := by rw [← hW]; exact ((Blk.new w _ [_, _, _, _]).bel (alloc_bel _ _)).bel (alloc_bel _ _)
    have hY : Blk W (w.heap.size + 1) 119 [.slice B wave.length cB, .slice D were.length cD] := by rw [← hW]; exact (Blk.new2 w 81 119 [.int .i64 gain, .int .i64 limit, .slice A samples.length cA, .slice G gaps.length c] [.slice B wave.length cB, .slice D were.length cD]).bel (alloc_bel _ _)
    have hR : Blk W (w.heap.size + 1 + 1) 105 [.int .i64 b, .int .i64 t] := by rw [← hW]; exact Blk.new3 w 81 119 105 [.int .i64 gain, .int .i64 limit, .slice A samples.length cA, .slice G gaps.length c] [.slice B wave.length cB, .slice D were.length cD] [.int .i64 b, .int .i64 t]
    rw [hW]
    clear hW
    obtain ⟨p, hp⟩ : ∃ p, w.heap.size + 1 = p := ⟨_, rfl⟩
    rw [hp] at hY hR ⊢
    obtain ⟨q, hq⟩ : ∃ q, p + 1 = q := ⟨_, rfl⟩
    rw [hq] at hR ⊢
    have hTW := hT.bel hwW
    have hsW := hs.bel hwW
    have hrW := hr.bel hwW
    have hvW := hv.bel hwW
    have hxl := hX.lt
    have hyl := hY.lt
    have hrl := hR.lt
    have c0 := hX.cell 0; have c1 := hX.cell 1; have c2 := hX.cell 2; have c3 := hX.cell 3; simp only [List.getElem?_cons_zero, List.getElem?_cons_succ] at c0 c1 c2 c3
    have y0 := hY.cell 0; have y1 := hY.cell 1; simp only [List.getElem?_cons_zero, List.getElem?_cons_succ] at y0 y1
    have r0 := hR.cell 0; have r1 := hR.cell 1; simp only [List.getElem?_cons_zero, List.getElem?_cons_succ] at r0 r1
    clear hX hY hR hp hq hT hs hr hv
    go_wp2_with (first
        | (go_at_call 15; refine (awake_c _ hTW).mono ?_; rintro e w1 ⟨rfl, hb1⟩; have k1 := (kp hb1).1)
        | (go_at_call 54; refine (HF.out _).mono ?_; rintro e w2 ⟨rfl, hb2⟩; have hB2 := bel_tr hb1 hb1.size hb2; have k2 := (kp hB2).1)
        | (go_at_call 62; refine (HFE.out _ (hsW.bel hB2) (hrW.bel hB2)).mono ?_; rintro e w3 ⟨rfl, hb3⟩; have hB3 := bel_tr hB2 hB2.size hb3; have k3 := (kp hB3).1)
        | (go_at_call 63; refine (HWE.out _ (hvW.bel hB3)).mono ?_; rintro e w4 ⟨rfl, hb4⟩; have hB4 := bel_tr hB3 hB3.size hb4; have k4 := (kp hB4).1)
        | (go_at_call 74; refine (HRE.out _).mono ?_; rintro e w5 ⟨rfl, hb5⟩; have hB5 := bel_tr hB4 hB4.size hb5; have k5 := (kp hB5).1)
      )
    go_ret
    exact ⟨rfl, bel_tr hwW hwW.size hB3⟩
  have e1 : decide ((32 : Int) < (wave.length : Int)) = false := by simp; omega
  by_cases h3 : WE = 0
  case neg =>
    have e2 : (WE != 0) = true := by simpa using h3
    clear h h2 h3
    go_enter Tryd.func13, Tryd.ntmps13
    go_upto_region 1 with fail
    obtain ⟨W, hW⟩ : ∃ W, ((w.alloc (.cells #[.int .i64 gain, .int .i64 limit, .slice A samples.length cA, .slice G gaps.length c] 81)).alloc (.cells #[.slice B wave.length cB, .slice D were.length cD] 119)).alloc (.cells #[.int .i64 b, .int .i64 t] 105) = W := ⟨_, rfl⟩
    have hwW : Below w.heap.size w W := by rw [← hW]; exact ((alloc_bel _ _).alloc (by simp) _).alloc (by simp; omega) _
    have hX : Blk W w.heap.size 81 [.int .i64 gain, .int .i64 limit, .slice A samples.length cA, .slice G gaps.length c] := by rw [← hW]; exact ((Blk.new w _ [_, _, _, _]).bel (alloc_bel _ _)).bel (alloc_bel _ _)
    have hY : Blk W (w.heap.size + 1) 119 [.slice B wave.length cB, .slice D were.length cD] := by rw [← hW]; exact (Blk.new2 w 81 119 [.int .i64 gain, .int .i64 limit, .slice A samples.length cA, .slice G gaps.length c] [.slice B wave.length cB, .slice D were.length cD]).bel (alloc_bel _ _)
    have hR : Blk W (w.heap.size + 1 + 1) 105 [.int .i64 b, .int .i64 t] := by rw [← hW]; exact Blk.new3 w 81 119 105 [.int .i64 gain, .int .i64 limit, .slice A samples.length cA, .slice G gaps.length c] [.slice B wave.length cB, .slice D were.length cD] [.int .i64 b, .int .i64 t]
    rw [hW]
    clear hW
    obtain ⟨p, hp⟩ : ∃ p, w.heap.size + 1 = p := ⟨_, rfl⟩
    rw [hp] at hY hR ⊢
    obtain ⟨q, hq⟩ : ∃ q, p + 1 = q := ⟨_, rfl⟩
    rw [hq] at hR ⊢
    have hTW := hT.bel hwW
    have hsW := hs.bel hwW
    have hrW := hr.bel hwW
    have hvW := hv.bel hwW
    have hxl := hX.lt
    have hyl := hY.lt
    have hrl := hR.lt
    have c0 := hX.cell 0; have c1 := hX.cell 1; have c2 := hX.cell 2; have c3 := hX.cell 3; simp only [List.getElem?_cons_zero, List.getElem?_cons_succ] at c0 c1 c2 c3
    have y0 := hY.cell 0; have y1 := hY.cell 1; simp only [List.getElem?_cons_zero, List.getElem?_cons_succ] at y0 y1
    have r0 := hR.cell 0; have r1 := hR.cell 1; simp only [List.getElem?_cons_zero, List.getElem?_cons_succ] at r0 r1
    clear hX hY hR hp hq hT hs hr hv
    go_wp2_with (first
        | (go_at_call 15; refine (awake_c _ hTW).mono ?_; rintro e w1 ⟨rfl, hb1⟩; have k1 := (kp hb1).1)
        | (go_at_call 54; refine (HF.out _).mono ?_; rintro e w2 ⟨rfl, hb2⟩; have hB2 := bel_tr hb1 hb1.size hb2; have k2 := (kp hB2).1)
        | (go_at_call 62; refine (HFE.out _ (hsW.bel hB2) (hrW.bel hB2)).mono ?_; rintro e w3 ⟨rfl, hb3⟩; have hB3 := bel_tr hB2 hB2.size hb3; have k3 := (kp hB3).1)
        | (go_at_call 63; refine (HWE.out _ (hvW.bel hB3)).mono ?_; rintro e w4 ⟨rfl, hb4⟩; have hB4 := bel_tr hB3 hB3.size hb4; have k4 := (kp hB4).1)
        | (go_at_call 74; refine (HRE.out _).mono ?_; rintro e w5 ⟨rfl, hb5⟩; have hB5 := bel_tr hB4 hB4.size hb5; have k5 := (kp hB5).1)
      )
    go_ret
    exact ⟨rfl, bel_tr hwW hwW.size hB4⟩
  subst h3
  by_cases h4 : samples.length < wave.length
  · have e2 : decide ((samples.length : Int) < (wave.length : Int)) = true := by simp; omega
    have e3 : decide (samples.length < wave.length) = true := by simpa using h4
    clear h h2 h4
    go_enter Tryd.func13, Tryd.ntmps13
    go_upto_region 1 with fail
    obtain ⟨W, hW⟩ : ∃ W, ((w.alloc (.cells #[.int .i64 gain, .int .i64 limit, .slice A samples.length cA, .slice G gaps.length c] 81)).alloc (.cells #[.slice B wave.length cB, .slice D were.length cD] 119)).alloc (.cells #[.int .i64 b, .int .i64 t] 105) = W := ⟨_, rfl⟩
    have hwW : Below w.heap.size w W := by rw [← hW]; exact ((alloc_bel _ _).alloc (by simp) _).alloc (by simp; omega) _
    have hX : Blk W w.heap.size 81 [.int .i64 gain, .int .i64 limit, .slice A samples.length cA, .slice G gaps.length c] := by rw [← hW]; exact ((Blk.new w _ [_, _, _, _]).bel (alloc_bel _ _)).bel (alloc_bel _ _)
    have hY : Blk W (w.heap.size + 1) 119 [.slice B wave.length cB, .slice D were.length cD] := by rw [← hW]; exact (Blk.new2 w 81 119 [.int .i64 gain, .int .i64 limit, .slice A samples.length cA, .slice G gaps.length c] [.slice B wave.length cB, .slice D were.length cD]).bel (alloc_bel _ _)
    have hR : Blk W (w.heap.size + 1 + 1) 105 [.int .i64 b, .int .i64 t] := by rw [← hW]; exact Blk.new3 w 81 119 105 [.int .i64 gain, .int .i64 limit, .slice A samples.length cA, .slice G gaps.length c] [.slice B wave.length cB, .slice D were.length cD] [.int .i64 b, .int .i64 t]
    rw [hW]
    clear hW
    obtain ⟨p, hp⟩ : ∃ p, w.heap.size + 1 = p := ⟨_, rfl⟩
    rw [hp] at hY hR ⊢
    obtain ⟨q, hq⟩ : ∃ q, p + 1 = q := ⟨_, rfl⟩
    rw [hq] at hR ⊢
    have hTW := hT.bel hwW
    have hsW := hs.bel hwW
    have hrW := hr.bel hwW
    have hvW := hv.bel hwW
    have hxl := hX.lt
    have hyl := hY.lt
    have hrl := hR.lt
    have c0 := hX.cell 0; have c1 := hX.cell 1; have c2 := hX.cell 2; have c3 := hX.cell 3; simp only [List.getElem?_cons_zero, List.getElem?_cons_succ] at c0 c1 c2 c3
    have y0 := hY.cell 0; have y1 := hY.cell 1; simp only [List.getElem?_cons_zero, List.getElem?_cons_succ] at y0 y1
    have r0 := hR.cell 0; have r1 := hR.cell 1; simp only [List.getElem?_cons_zero, List.getElem?_cons_succ] at r0 r1
    clear hX hY hR hp hq hT hs hr hv
    go_wp2_with (first
        | (go_at_call 15; refine (awake_c _ hTW).mono ?_; rintro e w1 ⟨rfl, hb1⟩; have k1 := (kp hb1).1)
        | (go_at_call 54; refine (HF.out _).mono ?_; rintro e w2 ⟨rfl, hb2⟩; have hB2 := bel_tr hb1 hb1.size hb2; have k2 := (kp hB2).1)
        | (go_at_call 62; refine (HFE.out _ (hsW.bel hB2) (hrW.bel hB2)).mono ?_; rintro e w3 ⟨rfl, hb3⟩; have hB3 := bel_tr hB2 hB2.size hb3; have k3 := (kp hB3).1)
        | (go_at_call 63; refine (HWE.out _ (hvW.bel hB3)).mono ?_; rintro e w4 ⟨rfl, hb4⟩; have hB4 := bel_tr hB3 hB3.size hb4; have k4 := (kp hB4).1)
        | (go_at_call 74; refine (HRE.out _).mono ?_; rintro e w5 ⟨rfl, hb5⟩; have hB5 := bel_tr hB4 hB4.size hb5; have k5 := (kp hB5).1)
      )
    go_ret
    exact ⟨rfl, bel_tr hwW hwW.size hB4⟩
  have e2 : decide ((samples.length : Int) < (wave.length : Int)) = false := by simp; omega
  have e3 : decide (samples.length < wave.length) = false := by simp; omega
  by_cases h5 : were.length = samples.length
  case neg =>
    have e4 : ((were.length : Int) != (samples.length : Int)) = true := by simp; omega
    have e5 : (were.length != samples.length) = true := by simpa using h5
    clear h h2 h4 h5
    go_enter Tryd.func13, Tryd.ntmps13
    go_upto_region 1 with fail
    obtain ⟨W, hW⟩ : ∃ W, ((w.alloc (.cells #[.int .i64 gain, .int .i64 limit, .slice A samples.length cA, .slice G gaps.length c] 81)).alloc (.cells #[.slice B wave.length cB, .slice D were.length cD] 119)).alloc (.cells #[.int .i64 b, .int .i64 t] 105) = W := ⟨_, rfl⟩
    have hwW : Below w.heap.size w W := by rw [← hW]; exact ((alloc_bel _ _).alloc (by simp) _).alloc (by simp; omega) _
    have hX : Blk W w.heap.size 81 [.int .i64 gain, .int .i64 limit, .slice A samples.length cA, .slice G gaps.length c] := by rw [← hW]; exact ((Blk.new w _ [_, _, _, _]).bel (alloc_bel _ _)).bel (alloc_bel _ _)
    have hY : Blk W (w.heap.size + 1) 119 [.slice B wave.length cB, .slice D were.length cD] := by rw [← hW]; exact (Blk.new2 w 81 119 [.int .i64 gain, .int .i64 limit, .slice A samples.length cA, .slice G gaps.length c] [.slice B wave.length cB, .slice D were.length cD]).bel (alloc_bel _ _)
    have hR : Blk W (w.heap.size + 1 + 1) 105 [.int .i64 b, .int .i64 t] := by rw [← hW]; exact Blk.new3 w 81 119 105 [.int .i64 gain, .int .i64 limit, .slice A samples.length cA, .slice G gaps.length c] [.slice B wave.length cB, .slice D were.length cD] [.int .i64 b, .int .i64 t]
    rw [hW]
    clear hW
    obtain ⟨p, hp⟩ : ∃ p, w.heap.size + 1 = p := ⟨_, rfl⟩
    rw [hp] at hY hR ⊢
    obtain ⟨q, hq⟩ : ∃ q, p + 1 = q := ⟨_, rfl⟩
    rw [hq] at hR ⊢
    have hTW := hT.bel hwW
    have hsW := hs.bel hwW
    have hrW := hr.bel hwW
    have hvW := hv.bel hwW
    have hxl := hX.lt
    have hyl := hY.lt
    have hrl := hR.lt
    have c0 := hX.cell 0; have c1 := hX.cell 1; have c2 := hX.cell 2; have c3 := hX.cell 3; simp only [List.getElem?_cons_zero, List.getElem?_cons_succ] at c0 c1 c2 c3
    have y0 := hY.cell 0; have y1 := hY.cell 1; simp only [List.getElem?_cons_zero, List.getElem?_cons_succ] at y0 y1
    have r0 := hR.cell 0; have r1 := hR.cell 1; simp only [List.getElem?_cons_zero, List.getElem?_cons_succ] at r0 r1
    clear hX hY hR hp hq hT hs hr hv
    go_wp2_with (first
        | (go_at_call 15; refine (awake_c _ hTW).mono ?_; rintro e w1 ⟨rfl, hb1⟩; have k1 := (kp hb1).1)
        | (go_at_call 54; refine (HF.out _).mono ?_; rintro e w2 ⟨rfl, hb2⟩; have hB2 := bel_tr hb1 hb1.size hb2; have k2 := (kp hB2).1)
        | (go_at_call 62; refine (HFE.out _ (hsW.bel hB2) (hrW.bel hB2)).mono ?_; rintro e w3 ⟨rfl, hb3⟩; have hB3 := bel_tr hB2 hB2.size hb3; have k3 := (kp hB3).1)
        | (go_at_call 63; refine (HWE.out _ (hvW.bel hB3)).mono ?_; rintro e w4 ⟨rfl, hb4⟩; have hB4 := bel_tr hB3 hB3.size hb4; have k4 := (kp hB4).1)
        | (go_at_call 74; refine (HRE.out _).mono ?_; rintro e w5 ⟨rfl, hb5⟩; have hB5 := bel_tr hB4 hB4.size hb5; have k5 := (kp hB5).1)
      )
    go_ret
    exact ⟨rfl, bel_tr hwW hwW.size hB4⟩
  have e4 : ((were.length : Int) != (samples.length : Int)) = false := by simp; omega
  have e5 : (were.length != samples.length) = false := by simp; omega
  by_cases h6 : RE = 0
  case neg =>
    have e6 : (RE != 0) = true := by simpa using h6
    clear h h2 h4 h5 h6
    go_enter Tryd.func13, Tryd.ntmps13
    go_upto_region 1 with fail
    obtain ⟨W, hW⟩ : ∃ W, ((w.alloc (.cells #[.int .i64 gain, .int .i64 limit, .slice A samples.length cA, .slice G gaps.length c] 81)).alloc (.cells #[.slice B wave.length cB, .slice D were.length cD] 119)).alloc (.cells #[.int .i64 b, .int .i64 t] 105) = W := ⟨_, rfl⟩
    have hwW : Below w.heap.size w W := by rw [← hW]; exact ((alloc_bel _ _).alloc (by simp) _).alloc (by simp; omega) _
    have hX : Blk W w.heap.size 81 [.int .i64 gain, .int .i64 limit, .slice A samples.length cA, .slice G gaps.length c] := by rw [← hW]; exact ((Blk.new w _ [_, _, _, _]).bel (alloc_bel _ _)).bel (alloc_bel _ _)
    have hY : Blk W (w.heap.size + 1) 119 [.slice B wave.length cB, .slice D were.length cD] := by rw [← hW]; exact (Blk.new2 w 81 119 [.int .i64 gain, .int .i64 limit, .slice A samples.length cA, .slice G gaps.length c] [.slice B wave.length cB, .slice D were.length cD]).bel (alloc_bel _ _)
    have hR : Blk W (w.heap.size + 1 + 1) 105 [.int .i64 b, .int .i64 t] := by rw [← hW]; exact Blk.new3 w 81 119 105 [.int .i64 gain, .int .i64 limit, .slice A samples.length cA, .slice G gaps.length c] [.slice B wave.length cB, .slice D were.length cD] [.int .i64 b, .int .i64 t]
    rw [hW]
    clear hW
    obtain ⟨p, hp⟩ : ∃ p, w.heap.size + 1 = p := ⟨_, rfl⟩
    rw [hp] at hY hR ⊢
    obtain ⟨q, hq⟩ : ∃ q, p + 1 = q := ⟨_, rfl⟩
    rw [hq] at hR ⊢
    have hTW := hT.bel hwW
    have hsW := hs.bel hwW
    have hrW := hr.bel hwW
    have hvW := hv.bel hwW
    have hxl := hX.lt
    have hyl := hY.lt
    have hrl := hR.lt
    have c0 := hX.cell 0; have c1 := hX.cell 1; have c2 := hX.cell 2; have c3 := hX.cell 3; simp only [List.getElem?_cons_zero, List.getElem?_cons_succ] at c0 c1 c2 c3
    have y0 := hY.cell 0; have y1 := hY.cell 1; simp only [List.getElem?_cons_zero, List.getElem?_cons_succ] at y0 y1
    have r0 := hR.cell 0; have r1 := hR.cell 1; simp only [List.getElem?_cons_zero, List.getElem?_cons_succ] at r0 r1
    clear hX hY hR hp hq hT hs hr hv
    go_wp2_with (first
        | (go_at_call 15; refine (awake_c _ hTW).mono ?_; rintro e w1 ⟨rfl, hb1⟩; have k1 := (kp hb1).1)
        | (go_at_call 54; refine (HF.out _).mono ?_; rintro e w2 ⟨rfl, hb2⟩; have hB2 := bel_tr hb1 hb1.size hb2; have k2 := (kp hB2).1)
        | (go_at_call 62; refine (HFE.out _ (hsW.bel hB2) (hrW.bel hB2)).mono ?_; rintro e w3 ⟨rfl, hb3⟩; have hB3 := bel_tr hB2 hB2.size hb3; have k3 := (kp hB3).1)
        | (go_at_call 63; refine (HWE.out _ (hvW.bel hB3)).mono ?_; rintro e w4 ⟨rfl, hb4⟩; have hB4 := bel_tr hB3 hB3.size hb4; have k4 := (kp hB4).1)
        | (go_at_call 74; refine (HRE.out _).mono ?_; rintro e w5 ⟨rfl, hb5⟩; have hB5 := bel_tr hB4 hB4.size hb5; have k5 := (kp hB5).1)
      )
    go_ret
    exact ⟨rfl, bel_tr hwW hwW.size hB5⟩
  subst h6
  by_cases h7 : 1999990 < b
  · have e6 : decide ((1999990 : Int) < b) = true := by simpa using h7
    clear h h2 h4 h5 h7
    go_enter Tryd.func13, Tryd.ntmps13
    go_upto_region 1 with fail
    obtain ⟨W, hW⟩ : ∃ W, ((w.alloc (.cells #[.int .i64 gain, .int .i64 limit, .slice A samples.length cA, .slice G gaps.length c] 81)).alloc (.cells #[.slice B wave.length cB, .slice D were.length cD] 119)).alloc (.cells #[.int .i64 b, .int .i64 t] 105) = W := ⟨_, rfl⟩
    have hwW : Below w.heap.size w W := by rw [← hW]; exact ((alloc_bel _ _).alloc (by simp) _).alloc (by simp; omega) _
    have hX : Blk W w.heap.size 81 [.int .i64 gain, .int .i64 limit, .slice A samples.length cA, .slice G gaps.length c] := by rw [← hW]; exact ((Blk.new w _ [_, _, _, _]).bel (alloc_bel _ _)).bel (alloc_bel _ _)
    have hY : Blk W (w.heap.size + 1) 119 [.slice B wave.length cB, .slice D were.length cD] := by rw [← hW]; exact (Blk.new2 w 81 119 [.int .i64 gain, .int .i64 limit, .slice A samples.length cA, .slice G gaps.length c] [.slice B wave.length cB, .slice D were.length cD]).bel (alloc_bel _ _)
    have hR : Blk W (w.heap.size + 1 + 1) 105 [.int .i64 b, .int .i64 t] := by rw [← hW]; exact Blk.new3 w 81 119 105 [.int .i64 gain, .int .i64 limit, .slice A samples.length cA, .slice G gaps.length c] [.slice B wave.length cB, .slice D were.length cD] [.int .i64 b, .int .i64 t]
    rw [hW]
    clear hW
    obtain ⟨p, hp⟩ : ∃ p, w.heap.size + 1 = p := ⟨_, rfl⟩
    rw [hp] at hY hR ⊢
    obtain ⟨q, hq⟩ : ∃ q, p + 1 = q := ⟨_, rfl⟩
    rw [hq] at hR ⊢
    have hTW := hT.bel hwW
    have hsW := hs.bel hwW
    have hrW := hr.bel hwW
    have hvW := hv.bel hwW
    have hxl := hX.lt
    have hyl := hY.lt
    have hrl := hR.lt
    have c0 := hX.cell 0; have c1 := hX.cell 1; have c2 := hX.cell 2; have c3 := hX.cell 3; simp only [List.getElem?_cons_zero, List.getElem?_cons_succ] at c0 c1 c2 c3
    have y0 := hY.cell 0; have y1 := hY.cell 1; simp only [List.getElem?_cons_zero, List.getElem?_cons_succ] at y0 y1
    have r0 := hR.cell 0; have r1 := hR.cell 1; simp only [List.getElem?_cons_zero, List.getElem?_cons_succ] at r0 r1
    clear hX hY hR hp hq hT hs hr hv
    go_wp2_with (first
        | (go_at_call 15; refine (awake_c _ hTW).mono ?_; rintro e w1 ⟨rfl, hb1⟩; have k1 := (kp hb1).1)
        | (go_at_call 54; refine (HF.out _).mono ?_; rintro e w2 ⟨rfl, hb2⟩; have hB2 := bel_tr hb1 hb1.size hb2; have k2 := (kp hB2).1)
        | (go_at_call 62; refine (HFE.out _ (hsW.bel hB2) (hrW.bel hB2)).mono ?_; rintro e w3 ⟨rfl, hb3⟩; have hB3 := bel_tr hB2 hB2.size hb3; have k3 := (kp hB3).1)
        | (go_at_call 63; refine (HWE.out _ (hvW.bel hB3)).mono ?_; rintro e w4 ⟨rfl, hb4⟩; have hB4 := bel_tr hB3 hB3.size hb4; have k4 := (kp hB4).1)
        | (go_at_call 74; refine (HRE.out _).mono ?_; rintro e w5 ⟨rfl, hb5⟩; have hB5 := bel_tr hB4 hB4.size hb5; have k5 := (kp hB5).1)
      )
    go_ret
    exact ⟨rfl, bel_tr hwW hwW.size hB5⟩
  · exfalso
    simp at h
    omega
end Go.Proofs.YthkmeaibppkhmaaDoor
