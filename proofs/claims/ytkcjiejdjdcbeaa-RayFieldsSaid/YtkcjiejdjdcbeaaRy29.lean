/- Contracts: the reference's check of a sky, its critical frequency. -/
import Derived.Test.YtkcjiejdjdcbeaaRy15
import Derived.Test.YtkcjiejdjdcbeaaRy28
set_option linter.unusedSimpArgs false
set_option linter.unusedVariables false
set_option linter.unusedSimpArgs false
set_option linter.unusedVariables false
namespace Go.Proofs.Ytkcjiejdjdcbeaa
open Go.RowKit
set_option maxRecDepth 100000

theorem skyE_head {H : Int} {l : List G} {e : Int} (h : skyHead H l.length = e) (he : e ≠ 0) : skyE H l = (0, e) := by
  unfold skyE
  rw [h, if_neg he]
set_option maxHeartbeats 2000000 in
theorem refCheckSky_c (H : Int) (A : Option Addr) (c : Nat) (l : List G) (w : World) (hr : Rd w A (gs l)) (hl : l.length ≤ 1000) :
    Calls Try.prog 22 #[.agg #[.int .i64 H, .slice A l.length c]] w fun r w' => r = .returned (.tuple #[.int .i64 (skyE H l).1, .int .i64 (skyE H l).2]) ∧ Below w.heap.size w w' := by
  have HWH := hide (fun W => within_c H 1 500 W)
  cases hH : outB H 1 500
  · rw [hH] at HWH
    by_cases hn : l.length = 0
    · have HR : Hid (skyE H l = (0, 10)) := skyE_head (by unfold skyHead; rw [hH, hn]; rfl) (by decide)
      have e0 : ((l.length : Int) == 0) = true := by rw [hn]; rfl
      rw [hn] at e0
      have hX := Blk.new w 24 [.int .i64 H, .slice A l.length c]
      have hbel := alloc_bel w (.cells #[.int .i64 H, .slice A l.length c] 24)
      have hrW := hr.bel hbel
      generalize hW : w.alloc (.cells #[.int .i64 H, .slice A l.length c] 24) = W at hX hbel hrW
      have HW := hide hW
      clear hW
      have c0 := hX.cell 0; have c1 := hX.cell 1; simp only [List.getElem?_cons_zero, List.getElem?_cons_succ] at c0 c1
      rw [hn]
      rw [hn] at c1
      go_enter Try.func22, Try.ntmps22
      go_upto_region 1 with fail
      rw [show w.alloc (.cells #[.int .i64 H, .slice A 0 c] 24) = W by rw [← HW.out, hn]]
      go_wp2_with (go_at_call 48; refine (HWH.out _).mono ?_; rintro e_ w_ ⟨rfl, rfl⟩)
      go_ret2
      exact ⟨by rw [HR.out]; rfl, hbel⟩
    · have e0 : ((l.length : Int) == 0) = false := by rw [beq_eq_false_iff_ne]; omega
      by_cases h12 : 12 < l.length
      · have HR : Hid (skyE H l = (0, 8)) := skyE_head (by unfold skyHead; rw [hH, e0, decide_eq_true (show (12 : Int) < (l.length : Int) by omega)]; rfl) (by decide)
        have i12 : (12 : Int) < (l.length : Int) := by omega
        have in0 : ¬ (l.length : Int) = 0 := by omega
        have hX := Blk.new w 24 [.int .i64 H, .slice A l.length c]
        have hbel := alloc_bel w (.cells #[.int .i64 H, .slice A l.length c] 24)
        have hrW := hr.bel hbel
        generalize hW : w.alloc (.cells #[.int .i64 H, .slice A l.length c] 24) = W at hX hbel hrW
        have HW := hide hW
        clear hW
        have c0 := hX.cell 0; have c1 := hX.cell 1; simp only [List.getElem?_cons_zero, List.getElem?_cons_succ] at c0 c1
        go_enter Try.func22, Try.ntmps22
        go_upto_region 1 with fail
        rw [HW.out]
        go_wp2_with (go_at_call 48; refine (HWH.out _).mono ?_; rintro e_ w_ ⟨rfl, rfl⟩)
        go_ret2
        exact ⟨by rw [HR.out]; rfl, hbel⟩
      · have HR : Hid (skyE H l = firstBadFrom (fun _ g => slabE g) 0 l) := by
          show _ = _
          unfold skyE
          rw [if_pos (by unfold skyHead; rw [hH, e0, decide_eq_false (show ¬ (12 : Int) < (l.length : Int) by omega)]; rfl)]
        have i12 : ¬ (12 : Int) < (l.length : Int) := by omega
        have in0 : ¬ (l.length : Int) = 0 := by omega
        have hX := Blk.new w 24 [.int .i64 H, .slice A l.length c]
        have hbel := alloc_bel w (.cells #[.int .i64 H, .slice A l.length c] 24)
        have hrW := hr.bel hbel
        generalize hW : w.alloc (.cells #[.int .i64 H, .slice A l.length c] 24) = W at hX hbel hrW
        have HW := hide hW
        clear hW
        have c0 := hX.cell 0; have c1 := hX.cell 1; simp only [List.getElem?_cons_zero, List.getElem?_cons_succ] at c0 c1
        go_enter Try.func22, Try.ntmps22
        go_upto_region 1 with fail
        rw [HW.out]
        go_wp2_with (go_at_call 48; refine (HWH.out _).mono ?_; rintro e_ w_ ⟨rfl, rfl⟩)
        go_loop [4] (fun i => ∃ k : Nat, k ≤ l.length ∧ i = .int .i64 k ∧ Hid (∀ j (h : j < l.length), j < k → slabE l[j] = 0)) (fun i => l.length - (intOf i).toNat)
        case atStart => exact ⟨0, Nat.zero_le _, rfl, fun _ _ h => by omega⟩
        case round =>
          obtain ⟨k, hk, rfl, h0⟩ := hrel
          by_cases hlt : k < l.length
          · obtain ⟨b, off, rfl, hblt, x0, x1⟩ := hrW.g_at hlt
            have HNX : Hid (slabE l[k] = 0 → ∀ j (h : j < l.length), j < k + 1 → slabE l[j] = 0) := fun hz j h hj => by
              by_cases e : j = k
              · subst e; exact hz
              · exact h0.out j h (by omega)
            have HBAD : Hid (slabE l[k] ≠ 0 → firstBadFrom (fun _ g => slabE g) 0 l = ((k : Int), slabE l[k])) := fun hz => by
              have := firstBadFrom_some (fun _ g => slabE g) l 0 k hlt (fun i hi => by simpa using h0.out i (by omega) hi) (by simpa using hz)
              simpa using this
            generalize l[k] = z at x0 x1 HNX HBAD
            obtain ⟨t, sq⟩ := z
            dsimp only at x0 x1
            have HE : Hid (slabE (t, sq) = firstE [errIf (outB t 1 500) 2, errIf (outB sq 0 9000000) 2]) := rfl
            have H1 := hide (fun W => within_c t 1 500 W)
            have H2 := hide (fun W => within_c sq 0 9000000 W)
            cases o1 : outB t 1 500
            · cases o2 : outB sq 0 9000000
              · have hz : slabE (t, sq) = 0 := by rw [HE.out, o1, o2]; rfl
                have HN := hide (HNX.out hz)
                rw [o1] at H1
                rw [o2] at H2
                clear HNX HBAD HE hz H1 H2
                go_wp2_with (go_at_call 48; refine (within_c _ _ _ _).mono ?_; rintro e_ w_ ⟨rfl, rfl⟩; first | rw [o1] | rw [o2])
                go_round
                case rel => exact ⟨k + 1, by omega, by go_num, HN⟩
                case measure => simp [intOf]; omega
              · have hz : slabE (t, sq) = 2 := by rw [HE.out, o1, o2]; rfl
                have HB := hide (HBAD.out (by rw [hz]; decide))
                rw [hz] at HB
                rw [o1] at H1
                rw [o2] at H2
                clear HNX HBAD HE hz H1 H2
                go_wp2_with (go_at_call 48; refine (within_c _ _ _ _).mono ?_; rintro e_ w_ ⟨rfl, rfl⟩; first | rw [o1] | rw [o2])
                go_ret2
                exact ⟨by rw [HR.out, HB.out]; rfl, hbel⟩
            · have hz : slabE (t, sq) = 2 := by rw [HE.out, o1]; rfl
              have HB := hide (HBAD.out (by rw [hz]; decide))
              rw [hz] at HB
              rw [o1] at H1
              clear HNX HBAD HE hz o1
              go_wp2_with (first
                | (go_at_call 48; refine (H1.out _).mono ?_; rintro e_ w_ ⟨rfl, rfl⟩))
              go_ret2
              exact ⟨by rw [HR.out, HB.out]; rfl, hbel⟩
          · obtain rfl : k = l.length := by omega
            have HB : Hid (firstBadFrom (fun _ g => slabE g) 0 l = (0, 0)) := firstBadFrom_none (fun _ g => slabE g) l 0 fun i hi => by simpa using h0.out i hi (by omega)
            go_wp2
            go_ret2
            exact ⟨by rw [HR.out, HB.out]; rfl, hbel⟩
  · rw [hH] at HWH
    have HR : Hid (skyE H l = (0, 2)) := skyE_head (by unfold skyHead; rw [hH]; rfl) (by decide)
    have hX := Blk.new w 24 [.int .i64 H, .slice A l.length c]
    have hbel := alloc_bel w (.cells #[.int .i64 H, .slice A l.length c] 24)
    have hrW := hr.bel hbel
    generalize hW : w.alloc (.cells #[.int .i64 H, .slice A l.length c] 24) = W at hX hbel hrW
    have HW := hide hW
    clear hW
    have c0 := hX.cell 0; have c1 := hX.cell 1; simp only [List.getElem?_cons_zero, List.getElem?_cons_succ] at c0 c1
    go_enter Try.func22, Try.ntmps22
    go_upto_region 1 with fail
    rw [HW.out]
    go_wp2_with (go_at_call 48; refine (HWH.out _).mono ?_; rintro e_ w_ ⟨rfl, rfl⟩)
    go_ret2
    exact ⟨by rw [HR.out]; rfl, hbel⟩
theorem refSkyErr_c (H : Int) (A : Option Addr) (c : Nat) (l : List G) (w : World) (hr : Rd w A (gs l)) (hl : l.length ≤ 1000) :
    Calls Try.prog 53 #[.agg #[.int .i64 H, .slice A l.length c]] w fun r w' => r = .returned (.int .i64 (skyE H l).2) ∧ Below w.heap.size w w' := by
  have HC := hide (fun W h => refCheckSky_c H A c l W h hl)
  generalize (skyE H l).1 = i at HC
  generalize (skyE H l).2 = e at HC ⊢
  go_enter Try.func53, Try.ntmps53
  go_wp2_with (first | (go_at_call 22; refine (HC.out _ (hr.alloc _)).mono ?_; rintro e w1 ⟨rfl, hb1⟩))
  go_ret
  exact ⟨rfl, bel_tr (alloc_bel _ _) (by simp) hb1⟩
end Go.Proofs.Ytkcjiejdjdcbeaa
