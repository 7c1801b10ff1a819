/- The law CodeLevels, whole: what the program and the reference answer, put together. Condition: the laid table. -/
import Derived.Test.YthkmeaibppkhmaaDoorL12
import Derived.Test.YthkmeaibppkhmaaDoorV9
namespace Go.Proofs.YthkmeaibppkhmaaDoor
open Go.RowKit
set_option maxRecDepth 100000

theorem firstE_3 (a b c : Int) : firstE [a, b, c] = if a = 0 then if b = 0 then c else b else a := by
  unfold firstE firstE firstE
  by_cases h1 : a = 0
  · simp only [if_pos h1]
    by_cases h2 : b = 0
    · simp only [if_pos h2]
      by_cases h3 : c = 0
      · simp [h3, firstE]
      · simp [h3]
    · simp [h2]
  · simp [h1]
theorem firstE_2 (a b : Int) : firstE [a, b] = if a = 0 then b else a := by
  unfold firstE firstE
  by_cases h1 : a = 0
  · simp only [if_pos h1]
    by_cases h2 : b = 0
    · simp [h2, firstE]
    · simp [h2]
  · simp [h1]

theorem lvE_zero {vals : List (Int × Int)} {miss : List Int} {lag b : Int} (h : lvE vals miss lag b = 0) : ∃ k : Nat, lag = k ∧ k < vals.length :=
  lagE_zero (firstE_zero h (lagE vals.length lag) (by simp))
theorem anE_zero {vals : List (Int × Int)} {miss : List Int} {lag b t : Int} (h : anE vals miss lag b t = 0) : ∃ k : Nat, lag = k ∧ k < vals.length :=
  lagE_zero (firstE_zero h (lagE vals.length lag) (by simp))
theorem lagE_out {n : Nat} {lag : Int} (h : outB lag 0 ((n : Int) - 1) = true) : lagE n lag = 6 := by unfold lagE errIf; rw [h]; rfl
theorem lagE_in {n : Nat} {lag : Int} (h : outB lag 0 ((n : Int) - 1) = false) : lagE n lag = 0 := by unfold lagE errIf; rw [h]; rfl
theorem in_lag {n : Nat} {lag : Int} (h : outB lag 0 ((n : Int) - 1) = false) : ∃ k : Nat, lag = k ∧ k < n := lagE_zero (lagE_in h)
theorem ru_bg {b t : Int} (h : ruE b t = 0) : bgE b = 0 := firstE_zero h _ (by simp)
theorem bg_ru {b t : Int} (h : bgE b ≠ 0) : ruE b t = bgE b := by unfold ruE; rw [firstE_2, if_neg h]

theorem levels_c (V M : Option Addr) (q1 q2 : Nat) (vals : List (Int × Int)) (miss : List Int) (lag b t : Int) (w : World) (hT : Tab w) (hs : Rd w V (gs vals)) (hr : Rd w M (ints miss)) :
    Calls Tryd.prog 12 #[.agg #[.slice V vals.length q1, .slice M miss.length q2], .int .i64 lag, .agg #[.int .i64 b, .int .i64 t]] w fun r w' => r = .returned (.bool true) ∧ Below w.heap.size w w' := by
  cases hf : fewB vals.length miss.length
  · exact levels_1 V M q1 q2 vals miss lag b t w hT hf
  · have hq : vals.length ≤ 70 ∧ miss.length ≤ 70 := by simpa [fewB] using hf
    have hn : vals.length ≤ 1000 := by omega
    refine levels_few V M q1 q2 vals miss lag b t w hT hs hr hf
      (if lvE vals miss lag b = 0 then lvLo vals miss lag.toNat b else 0) (if lvE vals miss lag b = 0 then lvHi vals miss lag.toNat b else 0) (lvE vals miss lag b)
      (if anE vals miss lag b t = 0 then ansN vals miss lag.toNat b t else 0) (anE vals miss lag b t) (pkE vals miss b t) (lineE vals miss) (ruE b t) (bgE b)
      (if pkE vals miss b t = 0 then pkL (peakB vals miss b t) vals.length else [])
      ?_ ?_ ?_ ?_ ?_ ?_ ?_ ?_ ?_ ?_ ?_ ?_ ?_ ?_ ?_ ?_ ?_ ?_ ?_
    · split
      · have := pkL_le (peakB vals miss b t) vals.length; omega
      · simp
    · intro V' M' e f W h1 h2
      by_cases h : lvE vals miss lag b = 0
      · obtain ⟨k, rfl, hk⟩ := lvE_zero h
        simp only [h, if_true, Int.toNat_natCast]
        exact levelAt_ok V' M' e f vals miss k b W h1 h2 hn h
      · simp only [if_neg h]
        exact levelAt_err V' M' e f vals miss lag b W h1 h2 hn h
    · intro V' M' e f W h1 h2
      by_cases h : anE vals miss lag b t = 0
      · obtain ⟨k, rfl, hk⟩ := anE_zero h
        simp only [h, if_true, Int.toNat_natCast]
        exact answerAt_ok V' M' e f vals miss k b t W h1 h2 hn h
      · simp only [if_neg h]
        exact answerAt_err V' M' e f vals miss lag b t W h1 h2 hn h
    · intro V' M' e f W h1 h2
      by_cases h : pkE vals miss b t = 0
      · simp only [h, if_true]
        exact peaksOf_ok V' M' e f vals miss b t W h1 h2 hn h
      · simp only [if_neg h]
        exact (peaksOf_err V' M' e f vals miss b t W h1 h2 hn h).mono fun r w' ⟨h3, h4⟩ => ⟨⟨none, 0, h3, Rd.nil _ _, fun _ _ h => by cases h⟩, h4⟩
    · exact fun W h1 h2 => refLineErr_c V M q1 q2 vals miss W h1 h2 hn
    · exact fun W => refRuleErr_c b t W
    · exact fun W => refBudgetErr_c b W
    · intro h1 h2 W h3 h4
      have h : pkE vals miss b t = 0 := by unfold pkE; rw [firstE_2, if_pos h1, h2]
      simp only [if_pos h]
      exact refPeaksOf_c V M q1 q2 vals miss b t W h3 h4 h1 h2
    · intro h1 h2 h3 W h4 h5
      obtain ⟨k, rfl, hk⟩ := in_lag h2
      have h : lvE vals miss k b = 0 := by unfold lvE; rw [firstE_3, if_pos h1, if_pos (lagE_in h2), h3]
      simp only [if_pos h, Int.toNat_natCast]
      obtain ⟨b1, b2⟩ := bgE_zero h3
      exact refLevel_c V M q1 q2 vals miss k b W h4 h5 (okAt_of h1 hk) b1 b2
    · intro h1 h2 h3 W h4 h5
      obtain ⟨k, rfl, hk⟩ := in_lag h2
      have h : anE vals miss k b t = 0 := by unfold anE; rw [firstE_3, if_pos h1, if_pos (lagE_in h2), h3]
      simp only [if_pos h, Int.toNat_natCast]
      obtain ⟨⟨b1, b2⟩, t1, t2⟩ := ruE_zero h3
      exact refAnswer_c refLevel_all V M q1 q2 vals miss k b t W h4 h5 (okAt_of h1 hk) b1 b2 t1 t2
    · intro h
      have e1 : lvE vals miss lag b = lineE vals miss := by unfold lvE; rw [firstE_3, if_neg h]
      have e2 : anE vals miss lag b t = lineE vals miss := by unfold anE; rw [firstE_3, if_neg h]
      have e3 : pkE vals miss b t = lineE vals miss := by unfold pkE; rw [firstE_2, if_neg h]
      rw [e1, e2, e3]
      simp [h]
    · intro h1 h2
      have e3 : pkE vals miss b t = ruE b t := by unfold pkE; rw [firstE_2, if_pos h1]
      rw [e3, if_neg h2]
      exact ⟨rfl, rfl⟩
    · intro h1 h2
      unfold pkE; rw [firstE_2, if_pos h1, h2]
    · intro h1 h2
      have e0 : lagE vals.length lag = 6 := lagE_out h2
      have e1 : lvE vals miss lag b = 6 := by unfold lvE; rw [firstE_3, if_pos h1, e0]; rfl
      have e2 : anE vals miss lag b t = 6 := by unfold anE; rw [firstE_3, if_pos h1, e0]; rfl
      rw [e1, e2]
      exact ⟨⟨rfl, rfl⟩, ⟨rfl, rfl⟩, rfl⟩
    · intro h1 h2 h3
      have e1 : lvE vals miss lag b = bgE b := by unfold lvE; rw [firstE_3, if_pos h1, if_pos (lagE_in h2)]
      rw [e1, if_neg h3, if_neg h3]
      exact ⟨rfl, rfl, rfl⟩
    · intro h1 h2 h3
      unfold lvE; rw [firstE_3, if_pos h1, if_pos (lagE_in h2), h3]
    · intro h1 h2 h3
      have e1 : anE vals miss lag b t = ruE b t := by unfold anE; rw [firstE_3, if_pos h1, if_pos (lagE_in h2)]
      rw [e1, if_neg h3]
      exact ⟨rfl, rfl⟩
    · intro h1 h2 h3
      unfold anE; rw [firstE_3, if_pos h1, if_pos (lagE_in h2), h3]
    · exact fun h => ru_bg h
end Go.Proofs.YthkmeaibppkhmaaDoor
