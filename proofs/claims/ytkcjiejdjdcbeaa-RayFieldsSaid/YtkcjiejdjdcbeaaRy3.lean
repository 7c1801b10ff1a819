/- Plain mathematics of fractions in lowest terms; contracts: the greatest common divisor, fractions in lowest terms, their comparison. -/
import Derived.Test.YtkcjiejdjdcbeaaRy2
set_option linter.unusedSimpArgs false
set_option linter.unusedVariables false
set_option linter.unusedSimpArgs false
set_option linter.unusedVariables false
namespace Go.Proofs.Ytkcjiejdjdcbeaa
open Go.RowKit
set_option maxRecDepth 100000

/-- A fraction in lowest terms. -/
def redQ (n d : Int) : G := (n / (Int.gcd n d : Int), d / (Int.gcd n d : Int))
theorem gcd_step (a b : Int) (hb : b ≠ 0) : Int.gcd b (Int.tmod a b) = Int.gcd a b := by
  unfold Int.gcd
  rw [Int.natAbs_tmod, Nat.gcd_comm, ← Nat.gcd_rec, Nat.gcd_comm]
theorem tmod_lt (a b : Int) (hb : b ≠ 0) : (Int.tmod a b).natAbs < b.natAbs := by
  rw [Int.natAbs_tmod]
  exact Nat.mod_lt _ (by omega)
theorem gcd_zero (a : Int) : (Int.gcd a 0 : Int) = max a (-a) := by
  rw [Int.gcd_zero_right]
  omega
theorem tdiv_gcd_left (n d : Int) (hd : 0 < d) : Int.tdiv n (Int.gcd n d : Int) = n / (Int.gcd n d : Int) :=
  Int.tdiv_eq_ediv_of_dvd (Int.gcd_dvd_left ..)
theorem tdiv_gcd_right (n d : Int) (hd : 0 < d) : Int.tdiv d (Int.gcd n d : Int) = d / (Int.gcd n d : Int) :=
  Int.tdiv_eq_ediv_of_dvd (Int.gcd_dvd_right ..)
theorem gcd_pos (n d : Int) (hd : 0 < d) : 1 ≤ (Int.gcd n d : Int) := by
  have : 0 < Int.gcd n d := Int.gcd_pos_of_ne_zero_right _ (by omega)
  omega
theorem gcd_le (n d : Int) (hd : 0 < d) : (Int.gcd n d : Int) ≤ d := Int.le_of_dvd hd (Int.gcd_dvd_right ..)
theorem redQ_den (n d : Int) (hd : 0 < d) : 1 ≤ (redQ n d).2 ∧ (redQ n d).2 ≤ d := by
  have h1 := gcd_pos n d hd
  have h2 : (redQ n d).2 * (Int.gcd n d : Int) = d := Int.ediv_mul_cancel (Int.gcd_dvd_right ..)
  refine ⟨?_, Int.ediv_le_self _ (by omega)⟩
  rcases Int.lt_or_le (redQ n d).2 1 with h | h
  · have := Int.mul_nonneg (show 0 ≤ -(redQ n d).2 by omega) (show 0 ≤ (Int.gcd n d : Int) by omega)
    rw [Int.neg_mul] at this
    omega
  · exact h
theorem redQ_mul (n d : Int) : (redQ n d).1 * (Int.gcd n d : Int) = n ∧ (redQ n d).2 * (Int.gcd n d : Int) = d := ⟨Int.ediv_mul_cancel (Int.gcd_dvd_left ..), Int.ediv_mul_cancel (Int.gcd_dvd_right ..)⟩
/-- Its value is as before. -/
theorem redQ_cross (n d : Int) : (redQ n d).1 * d = n * (redQ n d).2 := by
  obtain ⟨h1, h2⟩ := redQ_mul n d
  generalize (redQ n d).1 = a at h1 ⊢
  generalize (redQ n d).2 = b at h2 ⊢
  generalize (Int.gcd n d : Int) = g at h1 h2
  subst h1 h2
  rw [Int.mul_assoc, Int.mul_comm g b]
theorem redQ_num (n d : Int) (hd : 0 < d) : (redQ n d).1.natAbs ≤ n.natAbs := by
  obtain ⟨h1, _⟩ := redQ_mul n d
  have h3 := gcd_pos n d hd
  have h4 : n.natAbs = (redQ n d).1.natAbs * (Int.gcd n d : Int).natAbs := by rw [← Int.natAbs_mul, h1]
  rw [h4]
  exact Nat.le_mul_of_pos_right _ (by omega)
theorem redQ_nonneg (n d : Int) (hn : 0 ≤ n) : 0 ≤ (redQ n d).1 := Int.ediv_nonneg hn (by omega)
theorem redQ_pos (n d : Int) (hn : 0 < n) (hd : 0 < d) : 1 ≤ (redQ n d).1 := by
  obtain ⟨h1, _⟩ := redQ_mul n d
  have h0 := redQ_nonneg n d (by omega)
  rcases Int.lt_or_le (redQ n d).1 1 with h | h
  · rw [show (redQ n d).1 = 0 by omega, Int.zero_mul] at h1; omega
  · exact h
/-- A common factor falls out. -/
theorem redQ_scale (k n d : Int) (hk : 0 < k) : redQ (k * n) (k * d) = redQ n d := by
  unfold redQ
  have e : (Int.gcd (k * n) (k * d) : Int) = k * (Int.gcd n d : Int) := by
    rw [Int.gcd_mul_left]
    push_cast
    rw [show (k.natAbs : Int) = k by omega]
  rw [e, Int.mul_ediv_mul_of_pos _ _ hk, Int.mul_ediv_mul_of_pos _ _ hk]


theorem mul_in {a b m n : Int} (h1 : -m ≤ a) (h2 : a ≤ m) (h3 : -n ≤ b) (h4 : b ≤ n) : -(m * n) ≤ a * b ∧ a * b ≤ m * n := by
  have e1 : a.natAbs ≤ m.natAbs := by omega
  have e2 : b.natAbs ≤ n.natAbs := by omega
  have h := Nat.mul_le_mul e1 e2
  rw [← Int.natAbs_mul, ← Int.natAbs_mul] at h
  have hmn : 0 ≤ m * n := Int.mul_nonneg (by omega) (by omega)
  omega
theorem commonDivisor_c (a b : Int) (w : World) (hb : 1 ≤ b) (hb1 : b ≤ 9223372036854775807) (h0 : -9223372036854775808 ≤ a) (h1 : a ≤ 9223372036854775807) :
    Calls Try.prog 152 #[.int .i64 a, .int .i64 b] w fun r w' => r = .returned (.int .i64 (Int.gcd a b : Int)) ∧ Below w.heap.size w w' := by
  have HG : Hid (Int.gcd a b = Int.gcd a b) := rfl
  go_enter Try.func152, Try.ntmps152
  go_wp2
  go_loopw [0, 1] (fun x y wr => ∃ p q : Int, x = .int .i64 p ∧ y = .int .i64 q ∧ Below w.heap.size w wr ∧ Hid (Int.gcd p q = Int.gcd a b) ∧ -9223372036854775808 ≤ p ∧ p ≤ 9223372036854775807 ∧ (p = -9223372036854775808 → 1 ≤ q) ∧ q.natAbs ≤ b.natAbs) (fun _ y _ => (intOf y).natAbs)
  case atStart => exact ⟨a, b, rfl, rfl, Below.refl _ _, rfl, h0, h1, fun _ => hb, Nat.le_refl _⟩
  case round =>
    obtain ⟨p, q, rfl, rfl, hbr, hg, hp0, hp1, hpm, hq⟩ := hrel
    by_cases hz : q = 0
    · have HR : Hid ((Int.gcd a b : Int) = max p (-p)) := by show _ = _; rw [← hg.out, hz]; exact gcd_zero p
      have hpm' : -9223372036854775808 < p := by
        rcases Int.lt_or_le (-9223372036854775808) p with h | h
        · exact h
        · have := hpm (by omega); omega
      have e1 : (q != 0) = false := by simp [hz]
      clear hpm hz
      (go_wp2; all_goals (go_ret; exact ⟨ret_int (by rw [HR.out]; omega), hbr⟩))
    · have e1 : (q != 0) = true := by simpa using hz
      have e2 : (q == 0) = false := by simpa using hz
      have hlt := tmod_lt p q hz
      have H1 := hide ((gcd_step p q hz).trans hg.out)
      have hqb : -9223372036854775808 < q ∧ q ≤ 9223372036854775807 := by omega
      have hmq : (p = -9223372036854775808 → 1 ≤ q) := hpm
      have hp9 : q = -1 → -9223372036854775808 < p := fun h => by
        rcases Int.lt_or_le (-9223372036854775808) p with h' | h'
        · exact h'
        · have := hpm (by omega); omega
      have hq' := hide hq
      clear hpm hmq
      go_upto_region 2 with fail
      have hSd : (True ∧ True) := ⟨trivial, trivial⟩
      refine wp_region_held (S := fun _ => (True ∧ True)) (by kernel_rfl) ?_
      change wpAnyH _ _ _ _ _ _ _ _ wr.drew
      refine wpAnyH_take (i := 0) (v := ?_) rfl (by kernel_rfl) (by kernel_rfl) (by kernel_rfl) (fun _ _ _ h => h) (Or.inl ⟨by kernel_rfl, ?_⟩) (by assumption) ?_
      rotate_left 1
      · (intro w hSw; obtain ⟨hk1, hk2⟩ := hSw; go_simp <;> with_reducible rfl)
      simp only [Act.put, List.getElem_toArray, List.getElem_cons_zero, List.setIfInBounds_toArray, List.set_cons_zero, List.set_cons_succ]
      refine wpAnyH_take (i := 1) (v := ?_) rfl (by kernel_rfl) (by kernel_rfl) (by kernel_rfl) (fun _ _ _ h => h) (Or.inl ⟨by kernel_rfl, ?_⟩) (by assumption) ?_
      rotate_left 1
      · (intro w hSw; obtain ⟨hk1, hk2⟩ := hSw; go_simp <;> with_reducible rfl)
      simp only [Act.put, List.getElem_toArray, List.getElem_cons_zero, List.getElem_cons_succ, List.setIfInBounds_toArray, List.set_cons_zero, List.set_cons_succ]
      refine wpAnyH_take (i := 2) (v := ?_) rfl (by kernel_rfl) (by kernel_rfl) (by kernel_rfl) (fun _ _ _ h => h) (Or.inl ⟨by kernel_rfl, ?_⟩) (by assumption) ?_
      rotate_left 1
      · (intro w hSw; obtain ⟨hk1, hk2⟩ := hSw; go_simp <;> with_reducible rfl)
      simp only [Act.put, List.getElem_toArray, List.getElem_cons_zero, List.getElem_cons_succ, List.setIfInBounds_toArray, List.set_cons_zero, List.set_cons_succ]
      refine wpAnyH_take (i := 3) (v := ?_) rfl (by kernel_rfl) (by kernel_rfl) (by kernel_rfl) (fun _ _ _ h => h) (Or.inl ⟨by kernel_rfl, ?_⟩) (by assumption) ?_
      rotate_left 1
      · (intro w hSw; obtain ⟨hk1, hk2⟩ := hSw; go_simp <;> with_reducible rfl)
      simp only [Act.put, List.getElem_toArray, List.getElem_cons_zero, List.getElem_cons_succ, List.setIfInBounds_toArray, List.set_cons_zero, List.set_cons_succ]
      refine wpAnyH_take (i := 4) (v := ?_) rfl (by kernel_rfl) (by kernel_rfl) (by kernel_rfl) (fun _ _ _ h => h) (Or.inl ⟨by kernel_rfl, ?_⟩) (by assumption) ?_
      rotate_left 1
      · (intro w hSw; obtain ⟨hk1, hk2⟩ := hSw; go_simp <;> with_reducible rfl)
      simp only [Act.put, List.getElem_toArray, List.getElem_cons_zero, List.getElem_cons_succ, List.setIfInBounds_toArray, List.set_cons_zero, List.set_cons_succ]
      refine wpAnyH_take (i := 5) (v := ?_) rfl (by kernel_rfl) (by kernel_rfl) (by kernel_rfl) (fun _ _ _ h => h) (Or.inl ⟨by kernel_rfl, ?_⟩) (by assumption) ?_
      rotate_left 1
      · (intro w hSw; obtain ⟨hk1, hk2⟩ := hSw; go_simp <;> with_reducible rfl)
      simp only [Act.put, List.getElem_toArray, List.getElem_cons_zero, List.getElem_cons_succ, List.setIfInBounds_toArray, List.set_cons_zero, List.set_cons_succ]
      refine wpAnyH_done (by kernel_rfl) ?_ _
      go_wp2
      exact ⟨⟨q, _, rfl, rfl, hbr.drew, H1, by omega, by omega, fun h => by omega, by have := hq'.out; omega⟩, hlt⟩
theorem size_c (n : Int) (w : World) (h0 : -9223372036854775808 < n) (h1 : n ≤ 9223372036854775807) : Calls Try.prog 171 #[.int .i64 n] w fun r w' => r = .returned (.int .i64 (max n (-n))) ∧ w = w' := by
  by_cases h : n < 0
  · have h' : ¬ (0 ≤ n) := by omega
    go_enter Try.func171, Try.ntmps171
    go_wp2
    all_goals (
      go_ret
      exact ⟨ret_int (by show (_ : Int) = _; omega), rfl⟩)
  · go_enter Try.func171, Try.ntmps171
    go_wp2
    all_goals (
      go_ret
      exact ⟨ret_int (by show (_ : Int) = _; omega), rfl⟩)
theorem gcd_c (a b : Int) (w : World) (hb : 1 ≤ b) (hb1 : b ≤ 9223372036854775807) (h0 : -9223372036854775808 ≤ a) (h1 : a ≤ 9223372036854775807) :
    Calls Try.prog 149 #[.int .i64 a, .int .i64 b] w fun r w' => r = .returned (.int .i64 (Int.gcd a b : Int)) ∧ Below w.heap.size w w' := by
  have HG : Hid (Int.gcd a b = Int.gcd a b) := rfl
  go_enter Try.func149, Try.ntmps149
  go_wp2
  go_loopw [0, 1] (fun x y wr => ∃ p q : Int, x = .int .i64 p ∧ y = .int .i64 q ∧ Below w.heap.size w wr ∧ Hid (Int.gcd p q = Int.gcd a b) ∧ -9223372036854775808 ≤ p ∧ p ≤ 9223372036854775807 ∧ (p = -9223372036854775808 → 1 ≤ q) ∧ q.natAbs ≤ b.natAbs) (fun _ y _ => (intOf y).natAbs)
  case atStart => exact ⟨a, b, rfl, rfl, Below.refl _ _, rfl, h0, h1, fun _ => hb, Nat.le_refl _⟩
  case round =>
    obtain ⟨p, q, rfl, rfl, hbr, hg, hp0, hp1, hpm, hq⟩ := hrel
    by_cases hz : q = 0
    · have HR : Hid ((Int.gcd a b : Int) = max p (-p)) := by show _ = _; rw [← hg.out, hz]; exact gcd_zero p
      have hpm' : -9223372036854775808 < p := by
        rcases Int.lt_or_le (-9223372036854775808) p with h | h
        · exact h
        · have := hpm (by omega); omega
      have e1 : (q != 0) = false := by simp [hz]
      clear hpm hz
      (go_wp2_with (go_at_call 171; refine (size_c p _ hpm' hp1).mono ?_; rintro e_ w_ ⟨rfl, rfl⟩); go_ret; exact ⟨ret_int HR.out.symm, hbr⟩)
    · have e1 : (q != 0) = true := by simpa using hz
      have e2 : (q == 0) = false := by simpa using hz
      have hlt := tmod_lt p q hz
      have H1 := hide ((gcd_step p q hz).trans hg.out)
      have hqb : -9223372036854775808 < q ∧ q ≤ 9223372036854775807 := by omega
      have hmq : (p = -9223372036854775808 → 1 ≤ q) := hpm
      have hp9 : q = -1 → -9223372036854775808 < p := fun h => by
        rcases Int.lt_or_le (-9223372036854775808) p with h' | h'
        · exact h'
        · have := hpm (by omega); omega
      have hq' := hide hq
      clear hpm hmq
      go_upto_region 2 with fail
      have hSd : (True ∧ True) := ⟨trivial, trivial⟩
      refine wp_region_held (S := fun _ => (True ∧ True)) (by kernel_rfl) ?_
      change wpAnyH _ _ _ _ _ _ _ _ wr.drew
      refine wpAnyH_take (i := 0) (v := ?_) rfl (by kernel_rfl) (by kernel_rfl) (by kernel_rfl) (fun _ _ _ h => h) (Or.inl ⟨by kernel_rfl, ?_⟩) (by assumption) ?_
      rotate_left 1
      · (intro w hSw; obtain ⟨hk1, hk2⟩ := hSw; go_simp <;> with_reducible rfl)
      simp only [Act.put, List.getElem_toArray, List.getElem_cons_zero, List.setIfInBounds_toArray, List.set_cons_zero, List.set_cons_succ]
      refine wpAnyH_take (i := 1) (v := ?_) rfl (by kernel_rfl) (by kernel_rfl) (by kernel_rfl) (fun _ _ _ h => h) (Or.inl ⟨by kernel_rfl, ?_⟩) (by assumption) ?_
      rotate_left 1
      · (intro w hSw; obtain ⟨hk1, hk2⟩ := hSw; go_simp <;> with_reducible rfl)
      simp only [Act.put, List.getElem_toArray, List.getElem_cons_zero, List.getElem_cons_succ, List.setIfInBounds_toArray, List.set_cons_zero, List.set_cons_succ]
      refine wpAnyH_take (i := 2) (v := ?_) rfl (by kernel_rfl) (by kernel_rfl) (by kernel_rfl) (fun _ _ _ h => h) (Or.inl ⟨by kernel_rfl, ?_⟩) (by assumption) ?_
      rotate_left 1
      · (intro w hSw; obtain ⟨hk1, hk2⟩ := hSw; go_simp <;> with_reducible rfl)
      simp only [Act.put, List.getElem_toArray, List.getElem_cons_zero, List.getElem_cons_succ, List.setIfInBounds_toArray, List.set_cons_zero, List.set_cons_succ]
      refine wpAnyH_take (i := 3) (v := ?_) rfl (by kernel_rfl) (by kernel_rfl) (by kernel_rfl) (fun _ _ _ h => h) (Or.inl ⟨by kernel_rfl, ?_⟩) (by assumption) ?_
      rotate_left 1
      · (intro w hSw; obtain ⟨hk1, hk2⟩ := hSw; go_simp <;> with_reducible rfl)
      simp only [Act.put, List.getElem_toArray, List.getElem_cons_zero, List.getElem_cons_succ, List.setIfInBounds_toArray, List.set_cons_zero, List.set_cons_succ]
      refine wpAnyH_take (i := 4) (v := ?_) rfl (by kernel_rfl) (by kernel_rfl) (by kernel_rfl) (fun _ _ _ h => h) (Or.inl ⟨by kernel_rfl, ?_⟩) (by assumption) ?_
      rotate_left 1
      · (intro w hSw; obtain ⟨hk1, hk2⟩ := hSw; go_simp <;> with_reducible rfl)
      simp only [Act.put, List.getElem_toArray, List.getElem_cons_zero, List.getElem_cons_succ, List.setIfInBounds_toArray, List.set_cons_zero, List.set_cons_succ]
      refine wpAnyH_take (i := 5) (v := ?_) rfl (by kernel_rfl) (by kernel_rfl) (by kernel_rfl) (fun _ _ _ h => h) (Or.inl ⟨by kernel_rfl, ?_⟩) (by assumption) ?_
      rotate_left 1
      · (intro w hSw; obtain ⟨hk1, hk2⟩ := hSw; go_simp <;> with_reducible rfl)
      simp only [Act.put, List.getElem_toArray, List.getElem_cons_zero, List.getElem_cons_succ, List.setIfInBounds_toArray, List.set_cons_zero, List.set_cons_succ]
      refine wpAnyH_done (by kernel_rfl) ?_ _
      go_wp2
      exact ⟨⟨q, _, rfl, rfl, hbr.drew, H1, by omega, by omega, fun h => by omega, by have := hq'.out; omega⟩, hlt⟩
theorem isAtMost_c (a b c d : Int) (w : World) (h1 : -3000000000 ≤ a) (h2 : a ≤ 3000000000) (h3 : -3000000000 ≤ b) (h4 : b ≤ 3000000000) (h5 : -3000000000 ≤ c) (h6 : c ≤ 3000000000) (h7 : -3000000000 ≤ d) (h8 : d ≤ 3000000000) :
    Calls Try.prog 140 #[.agg #[.int .i64 a, .int .i64 b], .agg #[.int .i64 c, .int .i64 d]] w fun r w' => r = .returned (.bool (decide (a * d ≤ c * b))) ∧ Below w.heap.size w w' := by
  have hm1 := mul_in h1 h2 h7 h8
  have hm2 := mul_in h5 h6 h3 h4
  obtain ⟨W, hW⟩ : ∃ W, (w.alloc (.cells #[.int .i64 a, .int .i64 b] 26)).alloc (.cells #[.int .i64 c, .int .i64 d] 26) = W := ⟨_, rfl⟩
  have hB0 : Below w.heap.size w W := by rw [← hW]; exact bel_alloc (alloc_bel _ _) (by simp) _
  have hX : Blk W w.heap.size 26 [.int .i64 a, .int .i64 b] := by rw [← hW]; exact (Blk.new w _ [_, _]).bel (alloc_bel _ _)
  have hY : Blk W (w.heap.size + 1) 26 [.int .i64 c, .int .i64 d] := by rw [← hW]; have := Blk.new (w.alloc (.cells #[.int .i64 a, .int .i64 b] 26)) 26 [.int .i64 c, .int .i64 d]; simpa using this
  have HW := hide hW
  clear hW
  have c0 := hX.cell 0; have c1 := hX.cell 1; simp only [List.getElem?_cons_zero, List.getElem?_cons_succ] at c0 c1
  have d0 := hY.cell 0; have d1 := hY.cell 1; simp only [List.getElem?_cons_zero, List.getElem?_cons_succ] at d0 d1
  go_enter Try.func140, Try.ntmps140
  go_upto_region 1 with fail
  rw [HW.out]
  go_wp2
  go_ret
  exact ⟨rfl, hB0⟩
end Go.Proofs.Ytkcjiejdjdcbeaa
