/- Contracts: the check of a frame, as the reference has it. -/
import Derived.Test.YtnigmdkhecblnaaDoorR5
set_option linter.unusedSimpArgs false
set_option linter.unusedVariables false
namespace Go.Proofs.YtnigmdkhecblnaaDoor
open Go.RowKit
set_option maxRecDepth 100000

theorem frameE_head {gain limit : Int} {samples : List (Int × Int)} {gaps : List Int} {E : Int} (h : headE gain limit samples.length = E) (hE : E ≠ 0) : frameE gain limit samples gaps = (0, E) := by
  unfold frameE; rw [h, if_neg hE]

theorem frameE_samples {gain limit : Int} {samples : List (Int × Int)} {gaps : List Int} (h : headE gain limit samples.length = 0) (k : Nat) (hk : k < samples.length) (h0 : ∀ j (hj : j < samples.length), j < k → sampleE limit samples[j] = 0) (h1 : sampleE limit samples[k] = 2) : frameE gain limit samples gaps = ((k : Int), 2) := by
  have e : firstBadFrom (fun _ g => sampleE limit g) 0 samples = ((k : Int), 2) := by
    have := firstBadFrom_some (fun _ g => sampleE limit g) samples 0 k hk (fun i hi => h0 i (by omega) hi) (by rw [h1]; decide)
    rw [this, h1, Nat.zero_add]
  unfold frameE; rw [if_pos h, e, if_neg (by simp)]
theorem frameE_gaps {gain limit : Int} {samples : List (Int × Int)} {gaps : List Int} (h : headE gain limit samples.length = 0) (h0 : ∀ j (hj : j < samples.length), sampleE limit samples[j] = 0) : frameE gain limit samples gaps = firstBadFrom (gapE samples.length gaps) 0 gaps := by
  have e : firstBadFrom (fun _ g => sampleE limit g) 0 samples = (0, 0) := firstBadFrom_none _ _ _ fun i hi => h0 i hi
  unfold frameE; rw [if_pos h, e, if_pos rfl]

set_option maxHeartbeats 2000000 in
theorem refCheckFrame_c (gain limit : Int) (A G : Option Addr) (cA c : Nat) (samples : List (Int × Int)) (gaps : List Int) (w : World) (hs : Rd w A (gs samples)) (hr : Rd w G (ints gaps)) (hn : samples.length ≤ 1000) (hg : gaps.length ≤ 1000) :
    Calls Tryd.prog 46 #[.agg #[.int .i64 gain, .int .i64 limit, .slice A samples.length cA, .slice G gaps.length c]] w fun r w' =>
      r = .returned (.tuple #[.int .i64 (frameE gain limit samples gaps).1, .int .i64 (frameE gain limit samples gaps).2]) ∧ Below w.heap.size w w' := by
  by_cases h0 : headE gain limit samples.length = 0
  · obtain ⟨g1, g2, l1, l2, n1, n2⟩ := headE_zero h0
    have HG := hide (fun h => frameE_gaps (gaps := gaps) h0 h)
    have HB := hide (fun k hk a b => frameE_samples (gaps := gaps) h0 k hk a b)
    have q1 : outB gain (-8) 8 = false := outB_false.2 ⟨g1, g2⟩
    have q2 : outB limit 1 2000000 = false := outB_false.2 ⟨l1, l2⟩
    have q3 : ((samples.length : Int) == 0) = false := beq_eq_false_iff_ne.2 (by omega)
    have q4 : decide ((64 : Int) < samples.length) = false := by simp; omega
    clear h0
    have hX := Blk.new w 25 [.int .i64 gain, .int .i64 limit, .slice A samples.length cA, .slice G gaps.length c]
    go_enter Tryd.func46, Tryd.ntmps46
    go_wp2_with (first | (go_at_call 22; refine (within_c _ _ _ _).mono ?_; rintro e w' ⟨rfl, rfl⟩))
    obtain ⟨V, hV⟩ : ∃ V, w.alloc (.cells #[.int .i64 gain, .int .i64 limit, .slice A samples.length cA, .slice G gaps.length c] 25) = V := ⟨_, rfl⟩
    have hwV : Below w.heap.size w V := by rw [← hV]; exact alloc_bel _ _
    have hXV : Blk V w.heap.size 25 [.int .i64 gain, .int .i64 limit, .slice A samples.length cA, .slice G gaps.length c] := by rw [← hV]; exact hX
    rw [hV]
    clear hV hX q1 q2 q3 q4
    have hzV := hXV.lt
    go_loopw [4] (fun i wr => ∃ k : Nat, k ≤ samples.length ∧ i = .int .i64 k ∧ Below V.heap.size V wr ∧ Hid (∀ j (hj : j < samples.length), j < k → sampleE limit samples[j] = 0)) (fun i _ => samples.length - (intOf i).toNat)
    case atStart => exact ⟨0, Nat.zero_le _, rfl, Below.refl _ _, fun _ _ h => absurd h (Nat.not_lt_zero _)⟩
    case round =>
      obtain ⟨k, hk, rfl, hbr, hall⟩ := hrel
      have hXr := hXV.below hbr hzV
      have hwr := tr hwV hbr hwV.size
      have hzr := hbr.size
      by_cases hlt : k < samples.length
      · obtain ⟨b, off, rfl, hbl, z0, z1⟩ := (hs.bel hwr).g_at hlt
        have hsv : sampleE limit samples[k] = errIf (beyB samples[k] limit) 2 := rfl
        have HSV := hide hsv
        have HBk := hide (HB.out k hlt (fun j hj hjk => hall.out j hj hjk))
        clear hsv
        have hnext : Hid (sampleE limit samples[k] = 0 → ∀ j (hj : j < samples.length), j < k + 1 → sampleE limit samples[j] = 0) := fun he j hj hjk => by
          by_cases e : j = k
          · subst e; exact he
          · exact hall.out j hj (by omega)
        generalize samples[k] = g at z0 z1 HSV HBk hnext
        obtain ⟨x, y⟩ := g
        dsimp only at z0 z1
        have c0 := hXr.cell 0; have c1 := hXr.cell 1; have c2 := hXr.cell 2; simp only [List.getElem?_cons_zero, List.getElem?_cons_succ] at c0 c1 c2
        have HP := hide (fun W => isPart_c x y limit W (by omega) (by omega))
        generalize hbe : beyB (x, y) limit = be at HP HSV
        clear hbe
        have HS := hide (show wr.cell? ⟨w.heap.size, 1, none⟩ = some (.int .i64 limit) ∧ wr.cell? ⟨w.heap.size, 2, none⟩ = some (.slice (some ⟨b, off, none⟩) samples.length cA) ∧ wr.cell? ⟨b, off + k * 2, none⟩ = some (.int .i64 x) ∧ wr.cell? ⟨b, off + k * 2 + 1, none⟩ = some (.int .i64 y) ∧ Below V.heap.size V wr from ⟨c1, c2, z0, z1, hbr⟩)
        clear c0 c1 z0 z1
        have ix0 : (0 : Int) ≤ (k : Int) := by omega
        have ix1 : (k : Int) < (samples.length : Int) := by omega
        go_upto_region 10 with fail
        clear c2
        cases be
        · have hz : sampleE limit (x, y) = 0 := HSV.out
          have hnx := hide (hnext.out hz)
          clear hz
          go_region_held3 (fun w' => w'.cell? ⟨w.heap.size, 1, none⟩ = some (.int .i64 limit) ∧ w'.cell? ⟨w.heap.size, 2, none⟩ = some (.slice (some ⟨b, off, none⟩) samples.length cA) ∧ w'.cell? ⟨b, off + k * 2, none⟩ = some (.int .i64 x) ∧ w'.cell? ⟨b, off + k * 2 + 1, none⟩ = some (.int .i64 y) ∧ Below V.heap.size V w')
            (first | with_reducible exact hd4_drew HS.out | with_reducible exact H3.out)
            (first | (go_at_call 72; refine (HP.out _).mono ?_; rintro e w3 ⟨rfl, hb3⟩; have H3 := hide (hd4_bel (hd4_drew HS.out) hb3 (by simp; omega))))
          go_wp2
          go_roundw
          case rel => exact ⟨k + 1, by omega, by go_num, H3.out.2.2.2.2, hnx⟩
          case measure => simp [intOf]; omega
        · have hz : sampleE limit (x, y) = 2 := HSV.out
          have hres := hide (HBk.out hz)
          clear hz
          go_region_held3 (fun w' => w'.cell? ⟨w.heap.size, 1, none⟩ = some (.int .i64 limit) ∧ w'.cell? ⟨w.heap.size, 2, none⟩ = some (.slice (some ⟨b, off, none⟩) samples.length cA) ∧ w'.cell? ⟨b, off + k * 2, none⟩ = some (.int .i64 x) ∧ w'.cell? ⟨b, off + k * 2 + 1, none⟩ = some (.int .i64 y) ∧ Below V.heap.size V w')
            (first | with_reducible exact hd4_drew HS.out | with_reducible exact H3.out)
            (first | (go_at_call 72; refine (HP.out _).mono ?_; rintro e w3 ⟨rfl, hb3⟩; have H3 := hide (hd4_bel (hd4_drew HS.out) hb3 (by simp; omega))))
          go_wp2
          go_ret2
          exact ⟨by rw [hres.out]; rfl, tr hwV H3.out.2.2.2.2 hwV.size⟩
      · have hfr := hide (HG.out fun j hj => hall.out j hj (by omega))
        clear hall HB HG
        have c0 := hXr.cell 0; have c1 := hXr.cell 1; have c2 := hXr.cell 2; have c3 := hXr.cell 3; simp only [List.getElem?_cons_zero, List.getElem?_cons_succ] at c0 c1 c2 c3
        go_wp2
        clear c0 c1 c2 c3
        have hzW := hXr.lt
        go_loopw [5] (fun i wq => ∃ m : Nat, m ≤ gaps.length ∧ i = .int .i64 m ∧ Below wr.heap.size wr wq ∧ Hid (∀ j (hj : j < gaps.length), j < m → gapE samples.length gaps j gaps[j] = 0)) (fun i _ => gaps.length - (intOf i).toNat)
        case atStart => exact ⟨0, Nat.zero_le _, rfl, Below.refl _ _, fun _ _ h => absurd h (Nat.not_lt_zero _)⟩
        case round =>
          obtain ⟨m, hm, rfl, hbq, hall⟩ := hrel
          have hXq := hXr.below hbq hzW
          have hwq := tr hwr hbq hwr.size
          have c0 := hXq.cell 0; have c1 := hXq.cell 1; have c2 := hXq.cell 2; have c3 := hXq.cell 3; simp only [List.getElem?_cons_zero, List.getElem?_cons_succ] at c0 c1 c2 c3
          by_cases hmt : m < gaps.length
          · have ix0 : (0 : Int) ≤ (m : Int) := by omega
            have ix1 : (m : Int) < (gaps.length : Int) := by omega
            obtain ⟨b, off, rfl, hbl, z0⟩ := (hr.bel hwq).int_at hmt
            have HGE : Hid (gapE samples.length gaps m gaps[m] = firstE [errIf (outB gaps[m] 0 ((samples.length : Int) - 1)) 6, errIf (decide (0 < m) && decide (gaps[m] ≤ gaps.getD (m - 1) 0)) 9]) := rfl
            have hbad : Hid (∀ E, E ≠ 0 → gapE samples.length gaps m gaps[m] = E → frameE gain limit samples gaps = ((m : Int), E)) := fun E hE he => by
              have h1 := firstBadFrom_some (gapE samples.length gaps) gaps 0 m hmt (fun i hi => by simpa using hall.out i (by omega) hi) (by rw [Nat.zero_add, he]; exact hE)
              rw [hfr.out, h1, Nat.zero_add, he]
            have hnext : Hid (gapE samples.length gaps m gaps[m] = 0 → ∀ j (hj : j < gaps.length), j < m + 1 → gapE samples.length gaps j gaps[j] = 0) := fun he j hj hjk => by
              by_cases e : j = m
              · subst e; exact he
              · exact hall.out j hj (by omega)
            have hwl : IntKind.i64.wrap ((samples.length : Int) - 1) = (samples.length : Int) - 1 := by simp (disch := omega) only [IntWalk.i64_in]
            cases ho : outB gaps[m] 0 ((samples.length : Int) - 1)
            · by_cases hm0 : m = 0
              · have hz : gapE samples.length gaps m gaps[m] = 0 := by rw [HGE.out, ho, show decide (0 < m) = false by simp; omega]; rfl
                have hnx := hide (hnext.out hz)
                have d0 : decide ((0 : Int) < (m : Int)) = false := by simp; omega
                have d0' : decide (0 < m) = false := by simp; omega
                clear hz HGE hbad hnext hm0
                generalize gaps[m] = x at z0 ho
                go_wp2
                go_quiet ((go_at_call 22; exact quiet_eq (within_c _ _ _ _)))
                rw [ho]
                go_wp2
                go_quiet (fail)
                go_wp2
                go_roundw
                case rel => exact ⟨m + 1, by omega, by go_num, below_drewN hbq _, hnx⟩
                case measure => simp [intOf]; omega
              · have hm1 : m - 1 < gaps.length := by omega
                obtain ⟨b', off', hA', _, z1⟩ := (hr.bel hwq).int_at hm1
                injection hA' with hA'
                injection hA' with e1 e2
                subst e1 e2
                have hgd : gaps.getD (m - 1) 0 = gaps[m - 1] := by simp [List.getD, hm1]
                have d0 : decide ((0 : Int) < (m : Int)) = true := by simp; omega
                have d0' : decide (0 < m) = true := by simp; omega
                have hw1 : IntKind.i64.wrap ((m : Int) - 1) = (m : Int) - 1 := by simp (disch := omega) only [IntWalk.i64_in]
                have iy0 : (0 : Int) ≤ (m : Int) - 1 := by omega
                have iy1 : (m : Int) - 1 < (gaps.length : Int) := by omega
                have hmn : ((m : Int) - 1).toNat = m - 1 := by omega
                cases hle : decide (gaps[m] ≤ gaps[m - 1])
                · have hz : gapE samples.length gaps m gaps[m] = 0 := by rw [HGE.out, ho, hgd, hle]; simp [firstE, errIf]
                  have hnx := hide (hnext.out hz)
                  clear hz HGE hbad hnext hgd
                  generalize gaps[m] = x at z0 ho hle
                  generalize gaps[m - 1] = y at z1 hle
                  go_wp2
                  go_quiet ((go_at_call 22; exact quiet_eq (within_c _ _ _ _)))
                  rw [ho]
                  go_wp2
                  go_quiet (fail)
                  go_wp2
                  go_roundw
                  case rel => exact ⟨m + 1, by omega, by go_num, below_drewN hbq _, hnx⟩
                  case measure => simp [intOf]; omega
                · have hz : gapE samples.length gaps m gaps[m] = 9 := by rw [HGE.out, ho, hgd, hle]; simp [firstE, errIf]; omega
                  have hbx := hide (hbad.out 9 (by decide) hz)
                  clear hz HGE hbad hnext hgd
                  generalize gaps[m] = x at z0 ho hle
                  generalize gaps[m - 1] = y at z1 hle
                  go_wp2
                  go_quiet ((go_at_call 22; exact quiet_eq (within_c _ _ _ _)))
                  rw [ho]
                  go_wp2
                  go_quiet (fail)
                  go_wp2
                  go_ret2
                  exact ⟨by rw [hbx.out]; rfl, below_drewN (below_drewN hwq _) _⟩
            · have hz : gapE samples.length gaps m gaps[m] = 6 := by rw [HGE.out, ho]; rfl
              have hbx := hide (hbad.out 6 (by decide) hz)
              clear hz HGE hbad hnext
              generalize gaps[m] = x at z0 ho
              go_wp2
              go_quiet ((go_at_call 22; exact quiet_eq (within_c _ _ _ _)))
              rw [ho]
              go_wp2
              go_ret2
              exact ⟨by rw [hbx.out]; rfl, below_drewN hwq _⟩
          · have hz : Hid (frameE gain limit samples gaps = (0, 0)) := by
              show _ = _
              rw [hfr.out]
              exact firstBadFrom_none _ _ _ fun i hi => by simpa using hall.out i hi (by omega)
            go_wp2
            go_ret2
            exact ⟨by rw [hz.out]; rfl, hwq⟩
  · have hd : headE gain limit samples.length = firstE [errIf (outB gain (-8) 8) 2, errIf (outB limit 1 2000000) 2, lenE samples.length 64] := rfl
    have HR := hide (fun E (h : headE gain limit samples.length = E) (hE : E ≠ 0) => frameE_head (gaps := gaps) h hE)
    have hb : Below w.heap.size w (w.alloc (.cells #[.int .i64 gain, .int .i64 limit, .slice A samples.length cA, .slice G gaps.length c] 25)) := alloc_bel _ _
    cases q1 : outB gain (-8) 8
    · cases q2 : outB limit 1 2000000
      · rw [q1, q2] at hd
        by_cases hn0 : samples.length = 0
        · have H := hide (HR.out 10 (by rw [hd, lenE_eq, if_pos (by omega)]; rfl) (by decide))
          have q3 : ((samples.length : Int) == 0) = true := by rw [hn0]; rfl
          clear hd h0 hn0
          go_enter Tryd.func46, Tryd.ntmps46
          go_wp2_with (first | (go_at_call 22; refine (within_c _ _ _ _).mono ?_; rintro e w' ⟨rfl, rfl⟩))
          go_ret2
          exact ⟨by rw [H.out]; rfl, hb⟩
        · have hn64 : 64 < samples.length := by
            rcases Nat.lt_or_ge 64 samples.length with h | h
            · exact h
            · exact absurd (by rw [hd, lenE_eq, if_neg (by omega), if_neg (by omega)]; rfl) h0
          have H := hide (HR.out 8 (by rw [hd, lenE_eq, if_neg (by omega), if_pos (by omega)]; rfl) (by decide))
          have q3 : ((samples.length : Int) == 0) = false := beq_eq_false_iff_ne.2 (by omega)
          have q4 : decide ((64 : Int) < samples.length) = true := by simp; omega
          clear hd h0 hn0 hn64
          go_enter Tryd.func46, Tryd.ntmps46
          go_wp2_with (first | (go_at_call 22; refine (within_c _ _ _ _).mono ?_; rintro e w' ⟨rfl, rfl⟩))
          go_ret2
          exact ⟨by rw [H.out]; rfl, hb⟩
      · rw [q1, q2] at hd
        have H := hide (HR.out 2 (by rw [hd]; rfl) (by decide))
        clear hd h0
        go_enter Tryd.func46, Tryd.ntmps46
        go_wp2_with (first | (go_at_call 22; refine (within_c _ _ _ _).mono ?_; rintro e w' ⟨rfl, rfl⟩))
        go_ret2
        exact ⟨by rw [H.out]; rfl, hb⟩
    · rw [q1] at hd
      have H := hide (HR.out 2 (by rw [hd]; rfl) (by decide))
      clear hd h0
      go_enter Tryd.func46, Tryd.ntmps46
      go_wp2_with (first | (go_at_call 22; refine (within_c _ _ _ _).mono ?_; rintro e w' ⟨rfl, rfl⟩))
      go_ret2
      exact ⟨by rw [H.out]; rfl, hb⟩
end Go.Proofs.YtnigmdkhecblnaaDoor
