/- Contracts: whether a profile agrees with a point, in the program and in the reference; whether a list has a number. -/
import Derived.Test.YtdeehodekilaiaaF7
import Derived.Test.YtdeehodekilaiaaF11
import Derived.Test.YtdeehodekilaiaaG4
set_option linter.unusedSimpArgs false
set_option linter.unusedVariables false
namespace Go.Proofs.Ytdeehodekilaiaa
open Go.RowKit
set_option maxRecDepth 100000

/-- The answer for a point by a virtual height. -/
def agrV (v : G) (p : PT) : Int := if v.2 < p.2.1 ∨ p.2.2 < v.1 then 0 else if p.2.1 ≤ v.1 ∧ v.2 ≤ p.2.2 then 2 else 1
def agr (base : Int) (l : List G) (p : PT) : Int := if (virtR base l p.1).2 = 0 then agrV (virtR base l p.1).1 p else 0
theorem agrV_lo {v : G} {p : PT} (h : v.2 < p.2.1) : agrV v p = 0 := by unfold agrV; rw [if_pos (.inl h)]
theorem agrV_hi {v : G} {p : PT} (h : p.2.2 < v.1) : agrV v p = 0 := by unfold agrV; rw [if_pos (.inr h)]
theorem agrV_yes {v : G} {p : PT} (h1 : ¬ v.2 < p.2.1) (h2 : ¬ p.2.2 < v.1) (h3 : p.2.1 ≤ v.1) (h4 : v.2 ≤ p.2.2) : agrV v p = 2 := by unfold agrV; rw [if_neg (by omega), if_pos ⟨h3, h4⟩]
theorem agrV_maybe {v : G} {p : PT} (h1 : ¬ v.2 < p.2.1) (h2 : ¬ p.2.2 < v.1) (h3 : ¬ (p.2.1 ≤ v.1 ∧ v.2 ≤ p.2.2)) : agrV v p = 1 := by unfold agrV; rw [if_neg (by omega), if_neg h3]
theorem agrV_no {v : G} {p : PT} (hp : p.2.1 ≤ p.2.2) (hv : v.1 ≤ v.2) : (agrV v p = 0 ↔ (v.2 < p.2.1 ∨ p.2.2 < v.1)) := by
  unfold agrV
  split
  · simp_all
  · split <;> simp_all

set_option maxHeartbeats 2000000 in
theorem agreement_c (base f lo hi : Int) (A : Option Addr) (c : Nat) (l : List G) (w : World) (hr : Rd w A (gs l)) (hl : l.length ≤ 1000) :
    Calls Try.prog 52 #[.agg #[.int .i64 base, .slice A l.length c], .agg #[.int .i64 f, .int .i64 lo, .int .i64 hi]] w fun r w' => r = .returned (.int .i64 (agr base l (f, lo, hi))) ∧ Below w.heap.size w w' := by
  have HV := hide (fun W h => virtualAt_c base f A c l W h hl)
  have HR : Hid (agr base l (f, lo, hi) = if (virtR base l f).2 = 0 then agrV (virtR base l f).1 (f, lo, hi) else 0) := rfl
  unfold rangeV at HV
  generalize (virtR base l f).2 = ve at HV HR
  generalize (virtR base l f).1 = v at HV HR
  obtain ⟨x, y⟩ := v
  dsimp only at HV
  obtain ⟨W0, hW0⟩ : ∃ W0, (w.alloc (.cells #[.int .i64 base, .slice A l.length c] 24)).alloc (.cells #[.int .i64 f, .int .i64 lo, .int .i64 hi] 55) = W0 := ⟨_, rfl⟩
  obtain ⟨p, hp⟩ : ∃ p, w.heap.size = p := ⟨_, rfl⟩
  have hX0 : Blk W0 p 24 [.int .i64 base, .slice A l.length c] := by rw [← hW0, ← hp]; exact (two_new w _ _ [_, _] [_, _, _]).1
  have hP0 : Blk W0 (p + 1) 55 [.int .i64 f, .int .i64 lo, .int .i64 hi] := by rw [← hW0, ← hp]; exact (two_new w _ _ [_, _] [_, _, _]).2.1
  have hB0 : Below p w W0 := by rw [← hW0, ← hp]; exact (two_new w _ _ [_, _] [_, _, _]).2.2
  have hr0 := hr.bel (by rw [hp]; exact hB0)
  have HW := hide hW0
  clear hW0 hr
  have c0 := hX0.cell 0; have c1 := hX0.cell 1; simp only [List.getElem?_cons_zero, List.getElem?_cons_succ] at c0 c1
  have d0 := hP0.cell 0; have d1 := hP0.cell 1; have d2 := hP0.cell 2; simp only [List.getElem?_cons_zero, List.getElem?_cons_succ] at d0 d1 d2
  have z0 := hP0.lt
  have z1 := hX0.lt
  go_enter Try.func52, Try.ntmps52
  go_upto_region 1 with fail
  rw [HW.out]
  by_cases he : ve = 0
  · have HF : Hid (agr base l (f, lo, hi) = agrV (x, y) (f, lo, hi)) := by show _ = _; rw [HR.out, if_pos he]
    have e1 : (ve != 0) = false := by simpa using he
    clear he HR
    by_cases h1 : y < lo
    · have HF2 : Hid (agr base l (f, lo, hi) = 0) := by show _ = _; rw [HF.out, agrV_lo h1]
      have e2 : decide (y < lo) = true := decide_eq_true h1
      clear h1 HF
      go_upto_region 2 with (first | (go_at_call 17; refine (HV.out _ hr0).mono ?_; rintro e w1 ⟨rfl, hb1⟩))
      obtain ⟨W2, hW2⟩ : ∃ W, w1.alloc (.cells #[.int .i64 x, .int .i64 y] 51) = W := ⟨_, rfl⟩
      have hb2 : Below W0.heap.size W0 W2 := by rw [← hW2]; exact bel_alloc hb1 hb1.size _
      have hV2 : Blk W2 w1.heap.size 51 [.int .i64 x, .int .i64 y] := by rw [← hW2]; exact Blk.new w1 _ [_, _]
      have hP2 := hP0.bel hb2
      have hBE := bel_tr hB0 (by omega) hb2
      rw [hW2]
      clear hW2 c0 c1 d0 d1 d2 z0 z1 hb1
      have d0 := hP2.cell 0; have d1 := hP2.cell 1; have d2 := hP2.cell 2; simp only [List.getElem?_cons_zero, List.getElem?_cons_succ] at d0 d1 d2
      have v0 := hV2.cell 0; have v1 := hV2.cell 1; simp only [List.getElem?_cons_zero, List.getElem?_cons_succ] at v0 v1
      have z0 := hP2.lt
      have z1 := hV2.lt
      go_wp2
      go_ret
      exact ⟨by rw [HF2.out]; rfl, by rw [hp]; exact hBE⟩
    · have e2 : decide (y < lo) = false := decide_eq_false h1
      by_cases h2 : hi < x
      · have HF2 : Hid (agr base l (f, lo, hi) = 0) := by show _ = _; rw [HF.out, agrV_hi h2]
        have e3 : decide (hi < x) = true := decide_eq_true h2
        clear h1 h2 HF
        go_upto_region 2 with (first | (go_at_call 17; refine (HV.out _ hr0).mono ?_; rintro e w1 ⟨rfl, hb1⟩))
        obtain ⟨W2, hW2⟩ : ∃ W, w1.alloc (.cells #[.int .i64 x, .int .i64 y] 51) = W := ⟨_, rfl⟩
        have hb2 : Below W0.heap.size W0 W2 := by rw [← hW2]; exact bel_alloc hb1 hb1.size _
        have hV2 : Blk W2 w1.heap.size 51 [.int .i64 x, .int .i64 y] := by rw [← hW2]; exact Blk.new w1 _ [_, _]
        have hP2 := hP0.bel hb2
        have hBE := bel_tr hB0 (by omega) hb2
        rw [hW2]
        clear hW2 c0 c1 d0 d1 d2 z0 z1 hb1
        have d0 := hP2.cell 0; have d1 := hP2.cell 1; have d2 := hP2.cell 2; simp only [List.getElem?_cons_zero, List.getElem?_cons_succ] at d0 d1 d2
        have v0 := hV2.cell 0; have v1 := hV2.cell 1; simp only [List.getElem?_cons_zero, List.getElem?_cons_succ] at v0 v1
        have z0 := hP2.lt
        have z1 := hV2.lt
        go_wp2
        go_ret
        exact ⟨by rw [HF2.out]; rfl, by rw [hp]; exact hBE⟩
      · have e3 : decide (hi < x) = false := decide_eq_false h2
        by_cases h3 : lo ≤ x
        · have e4 : decide (lo ≤ x) = true := decide_eq_true h3
          by_cases h4 : y ≤ hi
          · have HF2 : Hid (agr base l (f, lo, hi) = 2) := by show _ = _; rw [HF.out, agrV_yes h1 h2 h3 h4]
            have e5 : decide (y ≤ hi) = true := decide_eq_true h4
            clear h1 h2 h3 h4 HF
            go_upto_region 2 with (first | (go_at_call 17; refine (HV.out _ hr0).mono ?_; rintro e w1 ⟨rfl, hb1⟩))
            obtain ⟨W2, hW2⟩ : ∃ W, w1.alloc (.cells #[.int .i64 x, .int .i64 y] 51) = W := ⟨_, rfl⟩
            have hb2 : Below W0.heap.size W0 W2 := by rw [← hW2]; exact bel_alloc hb1 hb1.size _
            have hV2 : Blk W2 w1.heap.size 51 [.int .i64 x, .int .i64 y] := by rw [← hW2]; exact Blk.new w1 _ [_, _]
            have hP2 := hP0.bel hb2
            have hBE := bel_tr hB0 (by omega) hb2
            rw [hW2]
            clear hW2 c0 c1 d0 d1 d2 z0 z1 hb1
            have d0 := hP2.cell 0; have d1 := hP2.cell 1; have d2 := hP2.cell 2; simp only [List.getElem?_cons_zero, List.getElem?_cons_succ] at d0 d1 d2
            have v0 := hV2.cell 0; have v1 := hV2.cell 1; simp only [List.getElem?_cons_zero, List.getElem?_cons_succ] at v0 v1
            have z0 := hP2.lt
            have z1 := hV2.lt
            go_wp2
            go_ret
            exact ⟨by rw [HF2.out]; rfl, by rw [hp]; exact hBE⟩
          · have HF2 : Hid (agr base l (f, lo, hi) = 1) := by show _ = _; rw [HF.out, agrV_maybe h1 h2 (fun h => h4 h.2)]
            have e5 : decide (y ≤ hi) = false := decide_eq_false h4
            clear h1 h2 h3 h4 HF
            go_upto_region 2 with (first | (go_at_call 17; refine (HV.out _ hr0).mono ?_; rintro e w1 ⟨rfl, hb1⟩))
            obtain ⟨W2, hW2⟩ : ∃ W, w1.alloc (.cells #[.int .i64 x, .int .i64 y] 51) = W := ⟨_, rfl⟩
            have hb2 : Below W0.heap.size W0 W2 := by rw [← hW2]; exact bel_alloc hb1 hb1.size _
            have hV2 : Blk W2 w1.heap.size 51 [.int .i64 x, .int .i64 y] := by rw [← hW2]; exact Blk.new w1 _ [_, _]
            have hP2 := hP0.bel hb2
            have hBE := bel_tr hB0 (by omega) hb2
            rw [hW2]
            clear hW2 c0 c1 d0 d1 d2 z0 z1 hb1
            have d0 := hP2.cell 0; have d1 := hP2.cell 1; have d2 := hP2.cell 2; simp only [List.getElem?_cons_zero, List.getElem?_cons_succ] at d0 d1 d2
            have v0 := hV2.cell 0; have v1 := hV2.cell 1; simp only [List.getElem?_cons_zero, List.getElem?_cons_succ] at v0 v1
            have z0 := hP2.lt
            have z1 := hV2.lt
            go_wp2
            go_ret
            exact ⟨by rw [HF2.out]; rfl, by rw [hp]; exact hBE⟩
        · have HF2 : Hid (agr base l (f, lo, hi) = 1) := by show _ = _; rw [HF.out, agrV_maybe h1 h2 (fun h => h3 h.1)]
          have e4 : decide (lo ≤ x) = false := decide_eq_false h3
          clear h1 h2 h3 HF
          go_upto_region 2 with (first | (go_at_call 17; refine (HV.out _ hr0).mono ?_; rintro e w1 ⟨rfl, hb1⟩))
          obtain ⟨W2, hW2⟩ : ∃ W, w1.alloc (.cells #[.int .i64 x, .int .i64 y] 51) = W := ⟨_, rfl⟩
          have hb2 : Below W0.heap.size W0 W2 := by rw [← hW2]; exact bel_alloc hb1 hb1.size _
          have hV2 : Blk W2 w1.heap.size 51 [.int .i64 x, .int .i64 y] := by rw [← hW2]; exact Blk.new w1 _ [_, _]
          have hP2 := hP0.bel hb2
          have hBE := bel_tr hB0 (by omega) hb2
          rw [hW2]
          clear hW2 c0 c1 d0 d1 d2 z0 z1 hb1
          have d0 := hP2.cell 0; have d1 := hP2.cell 1; have d2 := hP2.cell 2; simp only [List.getElem?_cons_zero, List.getElem?_cons_succ] at d0 d1 d2
          have v0 := hV2.cell 0; have v1 := hV2.cell 1; simp only [List.getElem?_cons_zero, List.getElem?_cons_succ] at v0 v1
          have z0 := hP2.lt
          have z1 := hV2.lt
          go_wp2
          go_ret
          exact ⟨by rw [HF2.out]; rfl, by rw [hp]; exact hBE⟩
  · have HF : Hid (agr base l (f, lo, hi) = 0) := by show _ = _; rw [HR.out, if_neg he]
    have e1 : (ve != 0) = true := by simpa using he
    clear he HR
    go_upto_region 2 with (first | (go_at_call 17; refine (HV.out _ hr0).mono ?_; rintro e w1 ⟨rfl, hb1⟩))
    obtain ⟨W2, hW2⟩ : ∃ W, w1.alloc (.cells #[.int .i64 x, .int .i64 y] 51) = W := ⟨_, rfl⟩
    have hb2 : Below W0.heap.size W0 W2 := by rw [← hW2]; exact bel_alloc hb1 hb1.size _
    have hV2 : Blk W2 w1.heap.size 51 [.int .i64 x, .int .i64 y] := by rw [← hW2]; exact Blk.new w1 _ [_, _]
    have hP2 := hP0.bel hb2
    have hBE := bel_tr hB0 (by omega) hb2
    rw [hW2]
    clear hW2 c0 c1 d0 d1 d2 z0 z1 hb1
    have d0 := hP2.cell 0; have d1 := hP2.cell 1; have d2 := hP2.cell 2; simp only [List.getElem?_cons_zero, List.getElem?_cons_succ] at d0 d1 d2
    have v0 := hV2.cell 0; have v1 := hV2.cell 1; simp only [List.getElem?_cons_zero, List.getElem?_cons_succ] at v0 v1
    have z0 := hP2.lt
    have z1 := hV2.lt
    go_wp2
    go_ret
    exact ⟨by rw [HF.out]; rfl, by rw [hp]; exact hBE⟩

set_option maxHeartbeats 2000000 in
theorem refAgrees_c (base f lo hi : Int) (A : Option Addr) (c : Nat) (l : List G) (w : World) (hr : Rd w A (gs l)) (hP : Pro base l) (f0 : 1 ≤ f) (f1 : f ≤ 3000) (hlh : lo ≤ hi) :
    Calls Try.prog 25 #[.agg #[.int .i64 base, .slice A l.length c], .agg #[.int .i64 f, .int .i64 lo, .int .i64 hi]] w fun r w' => r = .returned (.int .i64 (agr base l (f, lo, hi))) ∧ Below w.heap.size w w' := by
  have hfq := freqE_zero.2 ⟨f0, f1⟩
  have HR : Hid (agr base l (f, lo, hi) = if (virtR base l f).2 = 0 then agrV (virtR base l f).1 (f, lo, hi) else 0) := rfl
  by_cases hn : passN l f = l.length
  · have HF : Hid (agr base l (f, lo, hi) = 0) := by
      show _ = _
      rw [HR.out]
      have : (virtR base l f).2 = 21 := by unfold virtR; rw [hP.err, hfq, if_pos (by rfl), if_pos hn]
      rw [this, if_neg (by decide)]
    have HRF : Hid (∀ W, Rd W A (gs l) → Calls Try.prog 41 #[.agg #[.int .i64 base, .slice A l.length c], .int .i64 f] W fun r w' => r = .returned (.tuple #[.int .i64 0, .int .i64 0, .bool false]) ∧ Below W.heap.size W w') := fun W h => by
      have := refReflected_c base f A c l W h hP f0 f1
      rw [if_pos hn] at this
      exact this
    clear hn HR hP
    obtain ⟨W0, hW0⟩ : ∃ W0, (w.alloc (.cells #[.int .i64 base, .slice A l.length c] 24)).alloc (.cells #[.int .i64 f, .int .i64 lo, .int .i64 hi] 55) = W0 := ⟨_, rfl⟩
    obtain ⟨p, hp⟩ : ∃ p, w.heap.size = p := ⟨_, rfl⟩
    have hX0 : Blk W0 p 24 [.int .i64 base, .slice A l.length c] := by rw [← hW0, ← hp]; exact (two_new w _ _ [_, _] [_, _, _]).1
    have hP0 : Blk W0 (p + 1) 55 [.int .i64 f, .int .i64 lo, .int .i64 hi] := by rw [← hW0, ← hp]; exact (two_new w _ _ [_, _] [_, _, _]).2.1
    have hB0 : Below p w W0 := by rw [← hW0, ← hp]; exact (two_new w _ _ [_, _] [_, _, _]).2.2
    have hr0 := hr.bel (by rw [hp]; exact hB0)
    have HW := hide hW0
    clear hW0 hr
    have c0 := hX0.cell 0; have c1 := hX0.cell 1; simp only [List.getElem?_cons_zero, List.getElem?_cons_succ] at c0 c1
    have d0 := hP0.cell 0; have d1 := hP0.cell 1; have d2 := hP0.cell 2; simp only [List.getElem?_cons_zero, List.getElem?_cons_succ] at d0 d1 d2
    have z0 := hP0.lt
    have z1 := hX0.lt
    go_enter Try.func25, Try.ntmps25
    go_upto_region 1 with fail
    rw [HW.out]
    go_wp2_with (first | (go_at_call 41; refine (HRF.out _ hr0).mono ?_; rintro e w1 ⟨rfl, hb1⟩))
    go_ret
    exact ⟨by rw [HF.out]; rfl, by rw [hp]; exact bel_tr hB0 (by omega) hb1⟩
  · have HRF : Hid (∀ W, Rd W A (gs l) → Calls Try.prog 41 #[.agg #[.int .i64 base, .slice A l.length c], .int .i64 f] W fun r w' => r = .returned (.tuple #[.int .i64 (hgt base l (passN l f)), .int .i64 (passN l f), .bool true]) ∧ Below W.heap.size W w') := fun W h => by
      have := refReflected_c base f A c l W h hP f0 f1
      rw [if_neg hn] at this
      exact this
    have HVI := hide (fun W h => refVirtual_c base f A c l W h hP f0 f1 hn)
    have hvb := virt_bd hP.slabs f0 f1
    have HF : Hid (agr base l (f, lo, hi) = agrV (virt base l f) (f, lo, hi)) := by
      show _ = _
      rw [HR.out]
      have : virtR base l f = (virt base l f, 0) := by unfold virtR; rw [hP.err, hfq, if_pos (by rfl), if_neg hn]
      rw [this, if_pos rfl]
    generalize virt base l f = v at HVI hvb HF
    obtain ⟨x, y⟩ := v
    dsimp only at HVI hvb
    clear hn HR hP
    generalize hgt base l (passN l f) = hh at HRF
    generalize (passN l f : Int) = pn at HRF
    obtain ⟨W0, hW0⟩ : ∃ W0, (w.alloc (.cells #[.int .i64 base, .slice A l.length c] 24)).alloc (.cells #[.int .i64 f, .int .i64 lo, .int .i64 hi] 55) = W0 := ⟨_, rfl⟩
    obtain ⟨p, hp⟩ : ∃ p, w.heap.size = p := ⟨_, rfl⟩
    have hX0 : Blk W0 p 24 [.int .i64 base, .slice A l.length c] := by rw [← hW0, ← hp]; exact (two_new w _ _ [_, _] [_, _, _]).1
    have hP0 : Blk W0 (p + 1) 55 [.int .i64 f, .int .i64 lo, .int .i64 hi] := by rw [← hW0, ← hp]; exact (two_new w _ _ [_, _] [_, _, _]).2.1
    have hB0 : Below p w W0 := by rw [← hW0, ← hp]; exact (two_new w _ _ [_, _] [_, _, _]).2.2
    have hr0 := hr.bel (by rw [hp]; exact hB0)
    have HW := hide hW0
    clear hW0 hr
    have c0 := hX0.cell 0; have c1 := hX0.cell 1; simp only [List.getElem?_cons_zero, List.getElem?_cons_succ] at c0 c1
    have d0 := hP0.cell 0; have d1 := hP0.cell 1; have d2 := hP0.cell 2; simp only [List.getElem?_cons_zero, List.getElem?_cons_succ] at d0 d1 d2
    have z0 := hP0.lt
    have z1 := hX0.lt
    go_enter Try.func25, Try.ntmps25
    go_upto_region 1 with fail
    rw [HW.out]
    by_cases h3 : lo ≤ x
    · by_cases h4 : y ≤ hi
      · have HF2 : Hid (agr base l (f, lo, hi) = 2) := by show _ = _; rw [HF.out, agrV_yes (by dsimp only; omega) (by dsimp only; omega) h3 h4]
        have e4 : decide (lo ≤ x) = true := decide_eq_true (by omega)
        have e5 : decide (y ≤ hi) = true := decide_eq_true (by omega)
        clear h3 h4
        clear HF hvb
        go_upto_region 4 with (first | (go_at_call 41; refine (HRF.out _ hr0).mono ?_; rintro e w1 ⟨rfl, hb1⟩))
        have hX1 := hX0.bel hb1
        have hP1 := hP0.bel hb1
        have hr1 := hr0.bel hb1
        have hB1 := bel_tr hB0 (by omega) hb1
        have hs1 := hb1.size
        have hsp : p ≤ w1.heap.size := by omega
        clear c0 c1 d0 d1 d2 z0 z1
        have c0 := hX1.cell 0; have c1 := hX1.cell 1; simp only [List.getElem?_cons_zero, List.getElem?_cons_succ] at c0 c1
        have d0 := hP1.cell 0; have d1 := hP1.cell 1; have d2 := hP1.cell 2; simp only [List.getElem?_cons_zero, List.getElem?_cons_succ] at d0 d1 d2
        have z0 := hP1.lt
        have z1 := hX1.lt
        go_upto_region 5 with (first | (go_at_call 42; refine (HVI.out _ hr1).mono ?_; rintro e w2 ⟨rfl, hb2⟩))
        obtain ⟨W2, hW2⟩ : ∃ W, w2.alloc (.cells #[.int .i64 x, .int .i64 y] 51) = W := ⟨_, rfl⟩
        have hb3 : Below w1.heap.size w1 W2 := by rw [← hW2]; exact bel_alloc hb2 hb2.size _
        have hV2 : Blk W2 w2.heap.size 51 [.int .i64 x, .int .i64 y] := by rw [← hW2]; exact Blk.new w2 _ [_, _]
        have hP2 := hP1.bel hb3
        have hBE := bel_tr hB1 hsp hb3
        rw [hW2]
        clear hW2 c0 c1 d0 d1 d2 z0 z1 hb1 hb2 hb3
        have d0 := hP2.cell 0; have d1 := hP2.cell 1; have d2 := hP2.cell 2; simp only [List.getElem?_cons_zero, List.getElem?_cons_succ] at d0 d1 d2
        have v0 := hV2.cell 0; have v1 := hV2.cell 1; simp only [List.getElem?_cons_zero, List.getElem?_cons_succ] at v0 v1
        have z0 := hP2.lt
        have z1 := hV2.lt
        go_wp2
        go_ret
        exact ⟨by rw [HF2.out]; rfl, by rw [hp]; exact hBE⟩
      · by_cases h2 : hi < x
        · have HF2 : Hid (agr base l (f, lo, hi) = 0) := by show _ = _; rw [HF.out, agrV_hi h2]
          have e4 : decide (lo ≤ x) = true := decide_eq_true (by omega)
          have e5 : decide (y ≤ hi) = false := decide_eq_false (by omega)
          have e2 : decide (y < lo) = false := decide_eq_false (by omega)
          have e3 : decide (hi < x) = true := decide_eq_true (by omega)
          clear h3 h4 h2
          clear HF hvb
          go_upto_region 4 with (first | (go_at_call 41; refine (HRF.out _ hr0).mono ?_; rintro e w1 ⟨rfl, hb1⟩))
          have hX1 := hX0.bel hb1
          have hP1 := hP0.bel hb1
          have hr1 := hr0.bel hb1
          have hB1 := bel_tr hB0 (by omega) hb1
          have hs1 := hb1.size
          have hsp : p ≤ w1.heap.size := by omega
          clear c0 c1 d0 d1 d2 z0 z1
          have c0 := hX1.cell 0; have c1 := hX1.cell 1; simp only [List.getElem?_cons_zero, List.getElem?_cons_succ] at c0 c1
          have d0 := hP1.cell 0; have d1 := hP1.cell 1; have d2 := hP1.cell 2; simp only [List.getElem?_cons_zero, List.getElem?_cons_succ] at d0 d1 d2
          have z0 := hP1.lt
          have z1 := hX1.lt
          go_upto_region 5 with (first | (go_at_call 42; refine (HVI.out _ hr1).mono ?_; rintro e w2 ⟨rfl, hb2⟩))
          obtain ⟨W2, hW2⟩ : ∃ W, w2.alloc (.cells #[.int .i64 x, .int .i64 y] 51) = W := ⟨_, rfl⟩
          have hb3 : Below w1.heap.size w1 W2 := by rw [← hW2]; exact bel_alloc hb2 hb2.size _
          have hV2 : Blk W2 w2.heap.size 51 [.int .i64 x, .int .i64 y] := by rw [← hW2]; exact Blk.new w2 _ [_, _]
          have hP2 := hP1.bel hb3
          have hBE := bel_tr hB1 hsp hb3
          rw [hW2]
          clear hW2 c0 c1 d0 d1 d2 z0 z1 hb1 hb2 hb3
          have d0 := hP2.cell 0; have d1 := hP2.cell 1; have d2 := hP2.cell 2; simp only [List.getElem?_cons_zero, List.getElem?_cons_succ] at d0 d1 d2
          have v0 := hV2.cell 0; have v1 := hV2.cell 1; simp only [List.getElem?_cons_zero, List.getElem?_cons_succ] at v0 v1
          have z0 := hP2.lt
          have z1 := hV2.lt
          go_wp2
          go_ret
          exact ⟨by rw [HF2.out]; rfl, by rw [hp]; exact hBE⟩
        · have HF2 : Hid (agr base l (f, lo, hi) = 1) := by show _ = _; rw [HF.out, agrV_maybe (by dsimp only; omega) (by dsimp only; omega) (by dsimp only; omega)]
          have e4 : decide (lo ≤ x) = true := decide_eq_true (by omega)
          have e5 : decide (y ≤ hi) = false := decide_eq_false (by omega)
          have e2 : decide (y < lo) = false := decide_eq_false (by omega)
          have e3 : decide (hi < x) = false := decide_eq_false (by omega)
          clear h3 h4 h2
          clear HF hvb
          go_upto_region 4 with (first | (go_at_call 41; refine (HRF.out _ hr0).mono ?_; rintro e w1 ⟨rfl, hb1⟩))
          have hX1 := hX0.bel hb1
          have hP1 := hP0.bel hb1
          have hr1 := hr0.bel hb1
          have hB1 := bel_tr hB0 (by omega) hb1
          have hs1 := hb1.size
          have hsp : p ≤ w1.heap.size := by omega
          clear c0 c1 d0 d1 d2 z0 z1
          have c0 := hX1.cell 0; have c1 := hX1.cell 1; simp only [List.getElem?_cons_zero, List.getElem?_cons_succ] at c0 c1
          have d0 := hP1.cell 0; have d1 := hP1.cell 1; have d2 := hP1.cell 2; simp only [List.getElem?_cons_zero, List.getElem?_cons_succ] at d0 d1 d2
          have z0 := hP1.lt
          have z1 := hX1.lt
          go_upto_region 5 with (first | (go_at_call 42; refine (HVI.out _ hr1).mono ?_; rintro e w2 ⟨rfl, hb2⟩))
          obtain ⟨W2, hW2⟩ : ∃ W, w2.alloc (.cells #[.int .i64 x, .int .i64 y] 51) = W := ⟨_, rfl⟩
          have hb3 : Below w1.heap.size w1 W2 := by rw [← hW2]; exact bel_alloc hb2 hb2.size _
          have hV2 : Blk W2 w2.heap.size 51 [.int .i64 x, .int .i64 y] := by rw [← hW2]; exact Blk.new w2 _ [_, _]
          have hP2 := hP1.bel hb3
          have hBE := bel_tr hB1 hsp hb3
          rw [hW2]
          clear hW2 c0 c1 d0 d1 d2 z0 z1 hb1 hb2 hb3
          have d0 := hP2.cell 0; have d1 := hP2.cell 1; have d2 := hP2.cell 2; simp only [List.getElem?_cons_zero, List.getElem?_cons_succ] at d0 d1 d2
          have v0 := hV2.cell 0; have v1 := hV2.cell 1; simp only [List.getElem?_cons_zero, List.getElem?_cons_succ] at v0 v1
          have z0 := hP2.lt
          have z1 := hV2.lt
          go_wp2
          go_ret
          exact ⟨by rw [HF2.out]; rfl, by rw [hp]; exact hBE⟩
    · by_cases h1 : y < lo
      · have HF2 : Hid (agr base l (f, lo, hi) = 0) := by show _ = _; rw [HF.out, agrV_lo h1]
        have e4 : decide (lo ≤ x) = false := decide_eq_false (by omega)
        have e2 : decide (y < lo) = true := decide_eq_true (by omega)
        clear h3 h1
        clear HF hvb
        go_upto_region 4 with (first | (go_at_call 41; refine (HRF.out _ hr0).mono ?_; rintro e w1 ⟨rfl, hb1⟩))
        have hX1 := hX0.bel hb1
        have hP1 := hP0.bel hb1
        have hr1 := hr0.bel hb1
        have hB1 := bel_tr hB0 (by omega) hb1
        have hs1 := hb1.size
        have hsp : p ≤ w1.heap.size := by omega
        clear c0 c1 d0 d1 d2 z0 z1
        have c0 := hX1.cell 0; have c1 := hX1.cell 1; simp only [List.getElem?_cons_zero, List.getElem?_cons_succ] at c0 c1
        have d0 := hP1.cell 0; have d1 := hP1.cell 1; have d2 := hP1.cell 2; simp only [List.getElem?_cons_zero, List.getElem?_cons_succ] at d0 d1 d2
        have z0 := hP1.lt
        have z1 := hX1.lt
        go_upto_region 5 with (first | (go_at_call 42; refine (HVI.out _ hr1).mono ?_; rintro e w2 ⟨rfl, hb2⟩))
        obtain ⟨W2, hW2⟩ : ∃ W, w2.alloc (.cells #[.int .i64 x, .int .i64 y] 51) = W := ⟨_, rfl⟩
        have hb3 : Below w1.heap.size w1 W2 := by rw [← hW2]; exact bel_alloc hb2 hb2.size _
        have hV2 : Blk W2 w2.heap.size 51 [.int .i64 x, .int .i64 y] := by rw [← hW2]; exact Blk.new w2 _ [_, _]
        have hP2 := hP1.bel hb3
        have hBE := bel_tr hB1 hsp hb3
        rw [hW2]
        clear hW2 c0 c1 d0 d1 d2 z0 z1 hb1 hb2 hb3
        have d0 := hP2.cell 0; have d1 := hP2.cell 1; have d2 := hP2.cell 2; simp only [List.getElem?_cons_zero, List.getElem?_cons_succ] at d0 d1 d2
        have v0 := hV2.cell 0; have v1 := hV2.cell 1; simp only [List.getElem?_cons_zero, List.getElem?_cons_succ] at v0 v1
        have z0 := hP2.lt
        have z1 := hV2.lt
        go_wp2
        go_ret
        exact ⟨by rw [HF2.out]; rfl, by rw [hp]; exact hBE⟩
      · have HF2 : Hid (agr base l (f, lo, hi) = 1) := by show _ = _; rw [HF.out, agrV_maybe (by dsimp only; omega) (by dsimp only; omega) (by dsimp only; omega)]
        have e4 : decide (lo ≤ x) = false := decide_eq_false (by omega)
        have e2 : decide (y < lo) = false := decide_eq_false (by omega)
        have e3 : decide (hi < x) = false := decide_eq_false (by omega)
        clear h3 h1
        clear HF hvb
        go_upto_region 4 with (first | (go_at_call 41; refine (HRF.out _ hr0).mono ?_; rintro e w1 ⟨rfl, hb1⟩))
        have hX1 := hX0.bel hb1
        have hP1 := hP0.bel hb1
        have hr1 := hr0.bel hb1
        have hB1 := bel_tr hB0 (by omega) hb1
        have hs1 := hb1.size
        have hsp : p ≤ w1.heap.size := by omega
        clear c0 c1 d0 d1 d2 z0 z1
        have c0 := hX1.cell 0; have c1 := hX1.cell 1; simp only [List.getElem?_cons_zero, List.getElem?_cons_succ] at c0 c1
        have d0 := hP1.cell 0; have d1 := hP1.cell 1; have d2 := hP1.cell 2; simp only [List.getElem?_cons_zero, List.getElem?_cons_succ] at d0 d1 d2
        have z0 := hP1.lt
        have z1 := hX1.lt
        go_upto_region 5 with (first | (go_at_call 42; refine (HVI.out _ hr1).mono ?_; rintro e w2 ⟨rfl, hb2⟩))
        obtain ⟨W2, hW2⟩ : ∃ W, w2.alloc (.cells #[.int .i64 x, .int .i64 y] 51) = W := ⟨_, rfl⟩
        have hb3 : Below w1.heap.size w1 W2 := by rw [← hW2]; exact bel_alloc hb2 hb2.size _
        have hV2 : Blk W2 w2.heap.size 51 [.int .i64 x, .int .i64 y] := by rw [← hW2]; exact Blk.new w2 _ [_, _]
        have hP2 := hP1.bel hb3
        have hBE := bel_tr hB1 hsp hb3
        rw [hW2]
        clear hW2 c0 c1 d0 d1 d2 z0 z1 hb1 hb2 hb3
        have d0 := hP2.cell 0; have d1 := hP2.cell 1; have d2 := hP2.cell 2; simp only [List.getElem?_cons_zero, List.getElem?_cons_succ] at d0 d1 d2
        have v0 := hV2.cell 0; have v1 := hV2.cell 1; simp only [List.getElem?_cons_zero, List.getElem?_cons_succ] at v0 v1
        have z0 := hP2.lt
        have z1 := hV2.lt
        go_wp2
        go_ret
        exact ⟨by rw [HF2.out]; rfl, by rw [hp]; exact hBE⟩

/-- Whether a list has a number. -/
theorem has_c (l : List Int) (n : Int) (A : Option Addr) (c : Nat) (w : World) (hr : Rd w A (ints l)) (hl : l.length ≤ 1000) :
    Calls Try.prog 28 #[.slice A l.length c, .int .i64 n] w fun r w' => r = .returned (.bool (decide (n ∈ l))) ∧ w = w' := by
  go_enter Try.func28, Try.ntmps28
  go_wp2
  go_loop [5] (fun i => ∃ k : Nat, k ≤ l.length ∧ i = .int .i64 k ∧ Hid (∀ j (h : j < l.length), j < k → l[j] ≠ n)) (fun i => l.length - (intOf i).toNat)
  case atStart => exact ⟨0, Nat.zero_le _, rfl, fun _ _ h => by omega⟩
  case round =>
    obtain ⟨k, hk, rfl, h0⟩ := hrel
    by_cases hlt : k < l.length
    · obtain ⟨b, off, rfl, hblt, hc0⟩ := hr.int_at hlt
      by_cases hz : l[k] = n
      · have e1 : (l[k] == n) = true := by simpa using hz
        have H1 : Hid (decide (n ∈ l) = true) := by show _ = _; rw [decide_eq_true_eq, ← hz]; exact List.getElem_mem hlt
        clear hz
        go_wp2
        go_ret
        exact ⟨by rw [H1.out]; rfl, rfl⟩
      · have e1 : (l[k] == n) = false := by simpa using hz
        have H1 : Hid (∀ j (h : j < l.length), j < k + 1 → l[j] ≠ n) := fun j h hj => by
          by_cases e : j = k
          · subst e; exact hz
          · exact h0.out j h (by omega)
        clear hz
        go_wp2
        go_round
        case rel => exact ⟨k + 1, by omega, by go_num, H1⟩
        case measure => simp [intOf]; omega
    · have H1 : Hid (decide (n ∈ l) = false) := by
        show _ = _
        rw [decide_eq_false_iff_not]
        intro hm
        obtain ⟨j, hj, e⟩ := List.getElem_of_mem hm
        exact h0.out j hj (by omega) e
      go_wp2
      go_ret
      exact ⟨by rw [H1.out]; rfl, rfl⟩
end Go.Proofs.Ytdeehodekilaiaa
