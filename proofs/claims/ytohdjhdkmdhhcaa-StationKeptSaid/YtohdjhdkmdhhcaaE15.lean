/- Contracts: the reference of clocks. -/
import Derived.Test.YtohdjhdkmdhhcaaE14
set_option linter.unusedSimpArgs false
set_option linter.unusedVariables false
set_option linter.unusedSimpArgs false
set_option linter.unusedVariables false
namespace Go.Proofs.Ytohdjhdkmdhhcaa
open Go.RowKit
set_option maxRecDepth 100000

theorem up_le {n d m : Int} (hd : 0 < d) : upD n d ≤ m ↔ n ≤ m * d := by
  unfold upD
  constructor
  · intro h
    have := (Int.ediv_lt_iff_lt_mul hd).1 (show (n + d - 1) / d < m + 1 by omega)
    rw [Int.add_mul] at this
    omega
  · intro h
    have := (Int.ediv_lt_iff_lt_mul hd).2 (show n + d - 1 < (m + 1) * d by rw [Int.add_mul]; omega)
    omega
theorem up_neg {n d : Int} (hd : 0 < d) : -((-n) / d) = upD n d := by
  have h1 : ∀ m, upD n d ≤ m ↔ -((-n) / d) ≤ m := fun m => by
    rw [up_le hd]
    have := Int.le_ediv_iff_mul_le (a := -m) (b := -n) hd
    rw [Int.neg_mul] at this
    omega
  have h2 := (h1 (upD n d)).1 (Int.le_refl _)
  have h3 := (h1 (-((-n) / d))).2 (Int.le_refl _)
  omega
theorem tdiv_floor {n d : Int} (hd : 0 < d) : n / d = if n.tmod d < 0 then n.tdiv d - 1 else n.tdiv d := by
  have h1 := Int.mul_tdiv_add_tmod n d
  have h2 := Int.tmod_lt_of_pos n hd
  have h3 : -d < n.tmod d := by
    rcases Int.le_total 0 n with h | h
    · have := Int.tmod_nonneg d h; omega
    · have := Int.tmod_lt_of_pos (-n) hd
      rw [Int.neg_tmod] at this
      omega
  rw [Int.mul_comm] at h1
  split
  · refine (Int.ediv_eq_iff_of_pos hd).2 ?_
    rw [Int.sub_mul]
    constructor <;> omega
  · refine (Int.ediv_eq_iff_of_pos hd).2 ?_
    constructor <;> omega
theorem floor_c (n d : Int) (w : World) (h1 : -4000000000000000000 ≤ n) (h2 : n ≤ 4000000000000000000) (d1 : 1 ≤ d) (d2 : d ≤ 4000000000000000000) :
    Calls Try.prog 71 #[.int .i64 n, .int .i64 d] w fun r w' => r = .returned (.int .i64 (n / d)) ∧ w = w' := by
  have hq := tdiv_floor (n := n) (d := d) (by omega)
  by_cases h0 : 0 ≤ n
  · have hm : 0 ≤ n % d := Int.emod_nonneg _ (by omega)
    have hd1 : 0 ≤ n / d := Int.ediv_nonneg h0 (by omega)
    have hd2 : n / d ≤ n := Int.ediv_le_self _ h0
    have e1 : (d == 0) = false := by simp; omega
    clear hq
    go_enter Try.func71, Try.ntmps71
    go_wp2
    go_ret
    exact ⟨rfl, rfl⟩
  · have e1 : (d == 0) = false := by simp; omega
    have hb1 : -4000000000000000000 ≤ n.tdiv d := by
      have := Int.ediv_le_self (a := -n) d (by omega)
      have h3 : (-n).tdiv d = -(n.tdiv d) := Int.neg_tdiv n d
      have h4 : (-n).tdiv d = (-n) / d := Int.tdiv_eq_ediv_of_nonneg (by omega)
      omega
    have hb2 : n.tdiv d ≤ 0 := by
      have := Int.ediv_nonneg (a := -n) (b := d) (by omega) (by omega)
      have h3 : (-n).tdiv d = -(n.tdiv d) := Int.neg_tdiv n d
      have h4 : (-n).tdiv d = (-n) / d := Int.tdiv_eq_ediv_of_nonneg (by omega)
      omega
    by_cases hm : n.tmod d < 0
    · rw [if_pos hm] at hq
      have HQ := hide hq
      clear hq
      have u1 : IntKind.i64.wrap (n.tdiv d) = n.tdiv d := by simp (disch := omega) only [IntWalk.i64_in]
      have u2 : wrap64 (n.tdiv d) = n.tdiv d := wrap64_id (by omega) (by omega)
      have u3 : wrap64 (n.tdiv d - 1) = n.tdiv d - 1 := wrap64_id (by omega) (by omega)
      go_enter Try.func71, Try.ntmps71
      go_wp2
      go_ret
      exact ⟨ret_int (by rw [HQ.out]), rfl⟩
    · rw [if_neg hm] at hq
      have HQ := hide hq
      clear hq
      have u1 : IntKind.i64.wrap (n.tdiv d) = n.tdiv d := by simp (disch := omega) only [IntWalk.i64_in]
      have u2 : wrap64 (n.tdiv d) = n.tdiv d := wrap64_id (by omega) (by omega)
      go_enter Try.func71, Try.ntmps71
      go_wp2
      go_ret
      exact ⟨ret_int (by rw [HQ.out]), rfl⟩

theorem ceil_c (n d : Int) (w : World) (h1 : -4000000000000000000 ≤ n) (h2 : n ≤ 4000000000000000000) (d1 : 1 ≤ d) (d2 : d ≤ 4000000000000000000) :
    Calls Try.prog 50 #[.int .i64 n, .int .i64 d] w fun r w' => r = .returned (.int .i64 (upD n d)) ∧ w = w' := by
  have hu := up_neg (n := n) (d := d) (by omega)
  have hb1 : -4000000000000000000 ≤ -n / d := (Int.le_ediv_iff_mul_le (by omega)).2 (by
    have := Int.mul_le_mul_of_nonneg_left (show 1 ≤ d by omega) (show (0 : Int) ≤ 4000000000000000000 by omega)
    omega)
  have hb2 : -n / d ≤ 4000000000000000000 := by
    have := (Int.ediv_lt_iff_lt_mul (a := -n) (b := 4000000000000000001) (show 0 < d by omega)).2 (by
      have := Int.mul_le_mul_of_nonneg_left (show 1 ≤ d by omega) (show (0 : Int) ≤ 4000000000000000001 by omega)
      omega)
    omega
  have HF := hide (fun W => floor_c (-n) d W (by omega) (by omega) d1 d2)
  have HU := hide hu
  clear hu
  generalize -n / d = q at HF HU hb1 hb2
  go_enter Try.func50, Try.ntmps50
  go_wp2_with (first | (go_at_call 71; refine (HF.out _).mono ?_; rintro e_ w_ ⟨rfl, rfl⟩))
  go_ret
  exact ⟨ret_int (by rw [← HU.out]), rfl⟩

theorem Try.infoX : (Try.prog.info? 93).map (fun i => (i.zero, i.size, i.bytes)) = some (some (.agg #[.int .i64 0, .int .i64 0, .int .i64 0]), 3, 24) := by kernel_rfl
/-- The first error of exchanges, one by one. -/
theorem exs_none {l : List PT} (h : ∀ k (hk : k < l.length), exE l[k] = 0) : (firstBadFrom (fun _ x => exE x) 0 l).2 = 0 := by
  rw [firstBadFrom_none _ l 0 (fun i hi => h i hi)]
theorem exs_some {l : List PT} {k : Nat} (hk : k < l.length) (h0 : ∀ j (h : j < l.length), j < k → exE l[j] = 0) (h1 : exE l[k] ≠ 0) : (firstBadFrom (fun _ x => exE x) 0 l).2 = exE l[k] := by
  rw [firstBadFrom_some _ l 0 k hk (fun i hi => h0 i (by omega) hi) h1]
end Go.Proofs.Ytohdjhdkmdhhcaa
