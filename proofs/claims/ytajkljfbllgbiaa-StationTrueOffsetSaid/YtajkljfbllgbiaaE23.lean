/- The law of the true offset: what is not asked of. -/
import Derived.Test.YtajkljfbllgbiaaE22
set_option linter.unusedSimpArgs false
set_option linter.unusedVariables false
set_option linter.unusedSimpArgs false
set_option linter.unusedVariables false
namespace Go.Proofs.Ytajkljfbllgbiaa
open Go.RowKit
set_option maxRecDepth 100000

/-- What is asked of a clock, a drift and a time. -/
structure Asked (off ch : Int) (n n2 n3 : Nat) (D T : Int) : Prop where
  n0 : 1 ≤ n
  n1 : n ≤ 20
  e2 : n2 = n
  e3 : n3 = n
  d : outB D 0 1000 = false
  c : outB ch (-D) D = false
  o : outB off 0 1000000000 = false
  t : outB T 0 1000000 = false
set_option maxHeartbeats 2000000 in
theorem trueOff_bad (off ch : Int) (A1 A2 A3 : Option Addr) (n n2 n3 c1 c2 c3 : Nat) (D T : Int) (w : World) (hn : n ≤ maxLen ∧ n2 ≤ maxLen ∧ n3 ≤ maxLen) (h : ¬ Asked off ch n n2 n3 D T) :
    Calls Try.prog 5 #[.agg #[.int .i64 off, .int .i64 ch, .slice A1 n c1, .slice A2 n2 c2, .slice A3 n3 c3], .int .i64 D, .int .i64 T] w fun r w' => r = .returned (.bool true) ∧ Below w.heap.size w w' := by
  obtain ⟨m1, m2, m3⟩ := hn
  unfold maxLen at m1 m2 m3
  by_cases h0 : n = 0
  · have e0 : ((n : Int) == 0) = true := by simp [h0]
    clear h h0
    have hX0 := Blk.new w 49 [.int .i64 off, .int .i64 ch, .slice A1 n c1, .slice A2 n2 c2, .slice A3 n3 c3]
    have hB0 := alloc_bel w (.cells #[.int .i64 off, .int .i64 ch, .slice A1 n c1, .slice A2 n2 c2, .slice A3 n3 c3] 49)
    go_enter Try.func5, Try.ntmps5
    go_wp2_with (first
      | (go_at_call 9; refine (awake_c _).mono ?_; rintro e_ w1 ⟨rfl, hb1⟩; have hX1 := hX0.bel hb1; have c0 := hX1.cell 0; have c1 := hX1.cell 1; have c2 := hX1.cell 2; have c3 := hX1.cell 3; have c4 := hX1.cell 4; simp only [List.getElem?_cons_zero, List.getElem?_cons_succ] at c0 c1 c2 c3 c4; have hz1 := hX1.lt)
      | (go_at_call 23; refine (within_c _ _ _ _).mono ?_; rintro e_ w_ ⟨rfl, rfl⟩))
    go_ret
    exact ⟨rfl, bel_tr hB0 (by simp) hb1⟩
  · have e0 : ((n : Int) == 0) = false := by simp; omega
    by_cases h1 : 20 < n
    · have e1 : (20 : Int) < (n : Int) := by omega
      clear h h0 h1
      have hX0 := Blk.new w 49 [.int .i64 off, .int .i64 ch, .slice A1 n c1, .slice A2 n2 c2, .slice A3 n3 c3]
      have hB0 := alloc_bel w (.cells #[.int .i64 off, .int .i64 ch, .slice A1 n c1, .slice A2 n2 c2, .slice A3 n3 c3] 49)
      go_enter Try.func5, Try.ntmps5
      go_wp2_with (first
        | (go_at_call 9; refine (awake_c _).mono ?_; rintro e_ w1 ⟨rfl, hb1⟩; have hX1 := hX0.bel hb1; have c0 := hX1.cell 0; have c1 := hX1.cell 1; have c2 := hX1.cell 2; have c3 := hX1.cell 3; have c4 := hX1.cell 4; simp only [List.getElem?_cons_zero, List.getElem?_cons_succ] at c0 c1 c2 c3 c4; have hz1 := hX1.lt)
        | (go_at_call 23; refine (within_c _ _ _ _).mono ?_; rintro e_ w_ ⟨rfl, rfl⟩))
      go_ret
      exact ⟨rfl, bel_tr hB0 (by simp) hb1⟩
    · have e1 : ¬ (20 : Int) < (n : Int) := by omega
      by_cases h2 : n2 = n
      · have e2 : ((n2 : Int) != (n : Int)) = false := by simp; omega
        by_cases h3 : n3 = n
        · have e3 : ((n3 : Int) != (n : Int)) = false := by simp; omega
          cases o1 : outB D 0 1000
          · have hD := outB_false.1 o1
            cases o2 : outB ch (-D) D
            · cases o3 : outB off 0 1000000000
              · cases o4 : outB T 0 1000000
                · exact absurd ⟨by omega, by omega, h2, h3, o1, o2, o3, o4⟩ h
                · clear h h0 h1 h2 h3
                  have hX0 := Blk.new w 49 [.int .i64 off, .int .i64 ch, .slice A1 n c1, .slice A2 n2 c2, .slice A3 n3 c3]
                  have hB0 := alloc_bel w (.cells #[.int .i64 off, .int .i64 ch, .slice A1 n c1, .slice A2 n2 c2, .slice A3 n3 c3] 49)
                  go_enter Try.func5, Try.ntmps5
                  go_wp2_with (first
                    | (go_at_call 9; refine (awake_c _).mono ?_; rintro e_ w1 ⟨rfl, hb1⟩; have hX1 := hX0.bel hb1; have c0 := hX1.cell 0; have c1 := hX1.cell 1; have c2 := hX1.cell 2; have c3 := hX1.cell 3; have c4 := hX1.cell 4; simp only [List.getElem?_cons_zero, List.getElem?_cons_succ] at c0 c1 c2 c3 c4; have hz1 := hX1.lt)
                    | (go_at_call 23; refine (within_c _ _ _ _).mono ?_; rintro e_ w_ ⟨rfl, rfl⟩))
                  go_ret
                  exact ⟨rfl, bel_tr hB0 (by simp) hb1⟩
              · clear h h0 h1 h2 h3
                have hX0 := Blk.new w 49 [.int .i64 off, .int .i64 ch, .slice A1 n c1, .slice A2 n2 c2, .slice A3 n3 c3]
                have hB0 := alloc_bel w (.cells #[.int .i64 off, .int .i64 ch, .slice A1 n c1, .slice A2 n2 c2, .slice A3 n3 c3] 49)
                go_enter Try.func5, Try.ntmps5
                go_wp2_with (first
                  | (go_at_call 9; refine (awake_c _).mono ?_; rintro e_ w1 ⟨rfl, hb1⟩; have hX1 := hX0.bel hb1; have c0 := hX1.cell 0; have c1 := hX1.cell 1; have c2 := hX1.cell 2; have c3 := hX1.cell 3; have c4 := hX1.cell 4; simp only [List.getElem?_cons_zero, List.getElem?_cons_succ] at c0 c1 c2 c3 c4; have hz1 := hX1.lt)
                  | (go_at_call 23; refine (within_c _ _ _ _).mono ?_; rintro e_ w_ ⟨rfl, rfl⟩))
                go_ret
                exact ⟨rfl, bel_tr hB0 (by simp) hb1⟩
            · clear h h0 h1 h2 h3
              have hX0 := Blk.new w 49 [.int .i64 off, .int .i64 ch, .slice A1 n c1, .slice A2 n2 c2, .slice A3 n3 c3]
              have hB0 := alloc_bel w (.cells #[.int .i64 off, .int .i64 ch, .slice A1 n c1, .slice A2 n2 c2, .slice A3 n3 c3] 49)
              go_enter Try.func5, Try.ntmps5
              go_wp2_with (first
                | (go_at_call 9; refine (awake_c _).mono ?_; rintro e_ w1 ⟨rfl, hb1⟩; have hX1 := hX0.bel hb1; have c0 := hX1.cell 0; have c1 := hX1.cell 1; have c2 := hX1.cell 2; have c3 := hX1.cell 3; have c4 := hX1.cell 4; simp only [List.getElem?_cons_zero, List.getElem?_cons_succ] at c0 c1 c2 c3 c4; have hz1 := hX1.lt)
                | (go_at_call 23; refine (within_c _ _ _ _).mono ?_; rintro e_ w_ ⟨rfl, rfl⟩))
              go_ret
              exact ⟨rfl, bel_tr hB0 (by simp) hb1⟩
          · clear h h0 h1 h2 h3
            have hX0 := Blk.new w 49 [.int .i64 off, .int .i64 ch, .slice A1 n c1, .slice A2 n2 c2, .slice A3 n3 c3]
            have hB0 := alloc_bel w (.cells #[.int .i64 off, .int .i64 ch, .slice A1 n c1, .slice A2 n2 c2, .slice A3 n3 c3] 49)
            go_enter Try.func5, Try.ntmps5
            go_wp2_with (first
              | (go_at_call 9; refine (awake_c _).mono ?_; rintro e_ w1 ⟨rfl, hb1⟩; have hX1 := hX0.bel hb1; have c0 := hX1.cell 0; have c1 := hX1.cell 1; have c2 := hX1.cell 2; have c3 := hX1.cell 3; have c4 := hX1.cell 4; simp only [List.getElem?_cons_zero, List.getElem?_cons_succ] at c0 c1 c2 c3 c4; have hz1 := hX1.lt)
              | (go_at_call 23; refine (within_c _ _ _ _).mono ?_; rintro e_ w_ ⟨rfl, rfl⟩))
            go_ret
            exact ⟨rfl, bel_tr hB0 (by simp) hb1⟩
        · have e3 : ((n3 : Int) != (n : Int)) = true := by simp; omega
          clear h h0 h1 h2 h3
          have hX0 := Blk.new w 49 [.int .i64 off, .int .i64 ch, .slice A1 n c1, .slice A2 n2 c2, .slice A3 n3 c3]
          have hB0 := alloc_bel w (.cells #[.int .i64 off, .int .i64 ch, .slice A1 n c1, .slice A2 n2 c2, .slice A3 n3 c3] 49)
          go_enter Try.func5, Try.ntmps5
          go_wp2_with (first
            | (go_at_call 9; refine (awake_c _).mono ?_; rintro e_ w1 ⟨rfl, hb1⟩; have hX1 := hX0.bel hb1; have c0 := hX1.cell 0; have c1 := hX1.cell 1; have c2 := hX1.cell 2; have c3 := hX1.cell 3; have c4 := hX1.cell 4; simp only [List.getElem?_cons_zero, List.getElem?_cons_succ] at c0 c1 c2 c3 c4; have hz1 := hX1.lt)
            | (go_at_call 23; refine (within_c _ _ _ _).mono ?_; rintro e_ w_ ⟨rfl, rfl⟩))
          go_ret
          exact ⟨rfl, bel_tr hB0 (by simp) hb1⟩
      · have e2 : ((n2 : Int) != (n : Int)) = true := by simp; omega
        clear h h0 h1 h2
        have hX0 := Blk.new w 49 [.int .i64 off, .int .i64 ch, .slice A1 n c1, .slice A2 n2 c2, .slice A3 n3 c3]
        have hB0 := alloc_bel w (.cells #[.int .i64 off, .int .i64 ch, .slice A1 n c1, .slice A2 n2 c2, .slice A3 n3 c3] 49)
        go_enter Try.func5, Try.ntmps5
        go_wp2_with (first
          | (go_at_call 9; refine (awake_c _).mono ?_; rintro e_ w1 ⟨rfl, hb1⟩; have hX1 := hX0.bel hb1; have c0 := hX1.cell 0; have c1 := hX1.cell 1; have c2 := hX1.cell 2; have c3 := hX1.cell 3; have c4 := hX1.cell 4; simp only [List.getElem?_cons_zero, List.getElem?_cons_succ] at c0 c1 c2 c3 c4; have hz1 := hX1.lt)
          | (go_at_call 23; refine (within_c _ _ _ _).mono ?_; rintro e_ w_ ⟨rfl, rfl⟩))
        go_ret
        exact ⟨rfl, bel_tr hB0 (by simp) hb1⟩
end Go.Proofs.Ytajkljfbllgbiaa
