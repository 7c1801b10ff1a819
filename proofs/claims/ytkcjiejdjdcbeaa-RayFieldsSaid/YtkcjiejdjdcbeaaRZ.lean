/- A group of texts (tools/groups.txt): Ry46 Ry47 Ry48 Ry49 Ry50. No condition but those that each says. -/
import Derived.Test.YtkcjiejdjdcbeaaRy15
import Derived.Test.YtkcjiejdjdcbeaaRy32
import Derived.Test.YtkcjiejdjdcbeaaRy35
import Derived.Test.YtkcjiejdjdcbeaaRy24
import Derived.Test.YtkcjiejdjdcbeaaRy33
set_option linter.unusedSimpArgs false
set_option linter.unusedVariables false
/- Contracts: roots up, quotients, the reference's leg. -/
set_option linter.unusedSimpArgs false
set_option linter.unusedVariables false
namespace Go.Proofs.Ytkcjiejdjdcbeaa
open Go.RowKit
set_option maxRecDepth 100000

theorem floor_c (n d : Int) (w : World) (h1 : -4000000000000000000 ≤ n) (h2 : n ≤ 4000000000000000000) (d1 : 1 ≤ d) (d2 : d ≤ 4000000000000000000) :
    Calls Try.prog 78 #[.int .i64 n, .int .i64 d] w fun r w' => r = .returned (.int .i64 (n / d)) ∧ w = w' := by
  have hq := tdiv_floor (n := n) (d := d) (by omega)
  by_cases h0 : 0 ≤ n
  · have hm : 0 ≤ n % d := Int.emod_nonneg _ (by omega)
    have hd1 : 0 ≤ n / d := Int.ediv_nonneg h0 (by omega)
    have hd2 : n / d ≤ n := Int.ediv_le_self _ h0
    have e1 : (d == 0) = false := by simp; omega
    clear hq
    go_enter Try.func78, Try.ntmps78
    go_wp2
    go_ret
    exact ⟨rfl, rfl⟩
  · have e1 : (d == 0) = false := by simp; omega
    have hb1 : -4000000000000000000 ≤ n.tdiv d := by
      have := Int.ediv_le_self (a := -n) d (by omega)
      have h3 : (-n).tdiv d = -(n.tdiv d) := Int.neg_tdiv n d
      have h4 : (-n).tdiv d = (-n) / d := Int.tdiv_eq_ediv_of_nonneg (by omega)
      omega
    have hb2 : n.tdiv d ≤ 0 := by
      have := Int.ediv_nonneg (a := -n) (b := d) (by omega) (by omega)
      have h3 : (-n).tdiv d = -(n.tdiv d) := Int.neg_tdiv n d
      have h4 : (-n).tdiv d = (-n) / d := Int.tdiv_eq_ediv_of_nonneg (by omega)
      omega
    by_cases hm : n.tmod d < 0
    · rw [if_pos hm] at hq
      have HQ := hide hq
      clear hq
      have u1 : IntKind.i64.wrap (n.tdiv d) = n.tdiv d := by simp (disch := omega) only [IntWalk.i64_in]
      have u2 : wrap64 (n.tdiv d) = n.tdiv d := wrap64_id (by omega) (by omega)
      have u3 : wrap64 (n.tdiv d - 1) = n.tdiv d - 1 := wrap64_id (by omega) (by omega)
      go_enter Try.func78, Try.ntmps78
      go_wp2
      go_ret
      exact ⟨ret_int (by rw [HQ.out]), rfl⟩
    · rw [if_neg hm] at hq
      have HQ := hide hq
      clear hq
      have u1 : IntKind.i64.wrap (n.tdiv d) = n.tdiv d := by simp (disch := omega) only [IntWalk.i64_in]
      have u2 : wrap64 (n.tdiv d) = n.tdiv d := wrap64_id (by omega) (by omega)
      go_enter Try.func78, Try.ntmps78
      go_wp2
      go_ret
      exact ⟨ret_int (by rw [HQ.out]), rfl⟩

theorem ceil_c (n d : Int) (w : World) (h1 : -4000000000000000000 ≤ n) (h2 : n ≤ 4000000000000000000) (d1 : 1 ≤ d) (d2 : d ≤ 4000000000000000000) :
    Calls Try.prog 114 #[.int .i64 n, .int .i64 d] w fun r w' => r = .returned (.int .i64 (up n d)) ∧ w = w' := by
  have hu := up_neg (n := n) (d := d) (by omega)
  have hb1 : -4000000000000000000 ≤ -n / d := (Int.le_ediv_iff_mul_le (by omega)).2 (by
    have := Int.mul_le_mul_of_nonneg_left (show 1 ≤ d by omega) (show (0 : Int) ≤ 4000000000000000000 by omega)
    omega)
  have hb2 : -n / d ≤ 4000000000000000000 := by
    have := (Int.ediv_lt_iff_lt_mul (a := -n) (b := 4000000000000000001) (show 0 < d by omega)).2 (by
      have := Int.mul_le_mul_of_nonneg_left (show 1 ≤ d by omega) (show (0 : Int) ≤ 4000000000000000001 by omega)
      omega)
    omega
  have HF := hide (fun W => floor_c (-n) d W (by omega) (by omega) d1 d2)
  have HU := hide hu
  clear hu
  generalize -n / d = q at HF HU hb1 hb2
  go_enter Try.func114, Try.ntmps114
  go_wp2_with (first | (go_at_call 78; refine (HF.out _).mono ?_; rintro e_ w_ ⟨rfl, rfl⟩))
  go_ret
  exact ⟨ret_int (by rw [← HU.out]), rfl⟩

theorem RootAt.start2 {n : Nat} (h : n < 4611686018427387904) : RootAt n 0 31 := ⟨by omega, by simp; omega, by simp⟩
theorem root2_c (n : Nat) (hn : n < 4611686018427387904) (w : World) : Calls Try.prog 101 #[.int .i64 n] w fun r w' => r = .returned (.int .i64 (rootN n)) ∧ w = w' := by
  go_enter Try.func101, Try.ntmps101
  go_wp2
  go_loop [3, 4] (fun r b => ∃ m k : Nat, k ≤ 31 ∧ r = .int .i64 m ∧ b = .int .i64 (bitN k) ∧ Hid (RootAt n m k)) (fun _ b => (intOf b).toNat)
  case atStart => exact ⟨0, 31, Nat.le_refl _, rfl, rfl, RootAt.start2 hn⟩
  case round =>
    obtain ⟨m, k, hk, rfl, rfl, hR⟩ := hrel
    rcases Nat.eq_zero_or_pos k with rfl | hkp
    · have HD := hide hR.out.done
      rw [show ((bitN 0 : Nat) : Int) = 0 from rfl]
      go_wp2
      go_ret
      exact ⟨ret_int (by rw [HD.out]), rfl⟩
    · obtain ⟨k, rfl⟩ : ∃ j, k = j + 1 := ⟨k - 1, by omega⟩
      have hbd := hR.out.bd
      have hhalf := bitN_half k
      have hb1 : 1 ≤ bitN (k + 1) := Nat.two_pow_pos k
      have HY := hide (fun h => hR.out.yes h)
      have HN := hide (fun h => hR.out.no h)
      rw [show (2 : Nat) ^ k = bitN (k + 1) from rfl] at HY HN
      clear hR
      generalize bitN (k + 1) = b at hbd hhalf hb1 HY HN
      have hbh : (b : Int) / 2 = ((bitN k : Nat) : Int) := by omega
      have HH := hide hhalf
      clear hhalf
      have hbk : bitN k < b := by omega
      have hsq : ((m : Int) + b) * ((m : Int) + b) ≤ 2147483648 * 2147483648 := Int.mul_le_mul (by omega) (by omega) (by omega) (by omega)
      have hs0 : 0 ≤ ((m : Int) + b) * ((m : Int) + b) := Int.mul_nonneg (by omega) (by omega)
      have hcast : (((m + b) * (m + b) : Nat) : Int) = ((m : Int) + b) * ((m : Int) + b) := by rw [Int.natCast_mul]; simp
      by_cases hc : (m + b) * (m + b) ≤ n
      · have e1 : decide (((m : Int) + b) * ((m : Int) + b) ≤ (n : Int)) = true := decide_eq_true (by omega)
        have H1 := hide (HY.out hc)
        clear hc hcast
        go_wp2
        go_round
        case rel => exact ⟨m + b, k, by omega, by go_num, rfl, H1.out⟩
        case measure => simp [intOf]; omega
      · have e1 : decide (((m : Int) + b) * ((m : Int) + b) ≤ (n : Int)) = false := decide_eq_false (by omega)
        have H1 := hide (HN.out hc)
        clear hc hcast
        go_wp2
        go_round
        case rel => exact ⟨m, k, by omega, rfl, rfl, H1.out⟩
        case measure => simp [intOf]; omega
/-- The least number whose square is at least one. -/
def rupN (n : Nat) : Nat := if rootN n * rootN n < n then rootN n + 1 else rootN n
theorem rupN_eq {n r : Nat} (h1 : r * r < n) (h2 : n ≤ (r + 1) * (r + 1)) : rupN n = r + 1 := by
  have a := rootN_le n
  have b := rootN_lt n
  unfold rupN
  generalize rootN n = m at a b ⊢
  have h3 : r ≤ m := sqN_lt (by omega)
  have h4 : m ≤ r + 1 := by
    rcases Nat.lt_or_ge (r + 1) m with h | h
    · have := Nat.mul_le_mul (show r + 2 ≤ m by omega) (show r + 2 ≤ m by omega)
      have e : (r + 2) * (r + 2) = (r + 1) * (r + 1) + 2 * (r + 1) + 1 := by simp only [Nat.add_mul, Nat.mul_add, Nat.mul_one, Nat.one_mul]; omega
      omega
    · exact h
  rcases Nat.lt_or_ge m (r + 1) with h | h
  · have e : m = r := by omega
    subst e
    rw [if_pos h1]
  · have e : m = r + 1 := by omega
    subst e
    rw [if_neg (by omega)]
theorem rupN_sq (r : Nat) : rupN (r * r) = r := by
  have h : rootN (r * r) = r := rootN_eq (Nat.le_refl _) (by rw [Nat.add_mul, Nat.mul_add]; omega)
  unfold rupN
  rw [h, if_neg (by omega)]
theorem rootUp_c (n : Nat) (hn : n < 4611686018427387904) (w : World) : Calls Try.prog 113 #[.int .i64 n] w fun r w' => r = .returned (.int .i64 (rupN n : Int)) ∧ w = w' := by
  have HRT := hide (fun W => root2_c n hn W)
  have a := rootN_le n
  have HR : Hid (rupN n = if rootN n * rootN n < n then rootN n + 1 else rootN n) := rfl
  generalize rupN n = u at HR ⊢
  generalize rootN n = m at a HRT HR
  have hm : (m : Int) * m ≤ n := by rw [← Int.natCast_mul]; omega
  have hm0 : 0 ≤ (m : Int) * m := Int.mul_nonneg (by omega) (by omega)
  have hmb : (m : Int) ≤ 2147483648 := by
    rcases Int.lt_or_le 2147483648 (m : Int) with h | h
    · have := Int.mul_le_mul (show (2147483649 : Int) ≤ m by omega) (show (2147483649 : Int) ≤ m by omega) (by omega) (by omega)
      omega
    · exact h
  have hcast : ((m * m : Nat) : Int) = (m : Int) * m := Int.natCast_mul m m
  by_cases h : m * m < n
  · have HR2 : Hid (u = m + 1) := by show _ = _; rw [HR.out, if_pos h]
    have e1 : (m : Int) * m < n := by omega
    clear HR h hcast a
    go_enter Try.func113, Try.ntmps113
    go_wp2_with (go_at_call 101; refine (HRT.out _).mono ?_; rintro e_ w_ ⟨rfl, rfl⟩)
    go_ret
    exact ⟨ret_int (by rw [HR2.out]; simp), rfl⟩
  · have HR2 : Hid (u = m) := by show _ = _; rw [HR.out, if_neg h]
    have e1 : ¬ (m : Int) * m < n := by omega
    clear HR h hcast a
    go_enter Try.func113, Try.ntmps113
    go_wp2_with (go_at_call 101; refine (HRT.out _).mono ?_; rintro e_ w_ ⟨rfl, rfl⟩)
    go_ret
    exact ⟨ret_int (by rw [HR2.out]), rfl⟩
/-- A leg as the reference has it is that of the code. -/
theorem rootQ_up {n d : Int} (h0 : 0 ≤ n) (d0 : 1 ≤ d) : rootQ n d = ((rootN (n / d).toNat : Int), (rupN (up n d).toNat : Int)) := by
  have hq : 0 ≤ n / d := Int.ediv_nonneg h0 (by omega)
  obtain ⟨a, b⟩ := toNat_root hq
  have hu : ∀ m, up n d ≤ m ↔ n ≤ m * d := fun m => up_le (by omega)
  have hu0 : 0 ≤ up n d := by
    rcases Int.lt_or_le (up n d) 0 with h | h
    · have h1 := (hu (-1)).1 (by omega)
      rw [Int.neg_one_mul] at h1
      omega
    · exact h
  have hf : n / d * d ≤ n := (Int.le_ediv_iff_mul_le (show 0 < d by omega)).1 (Int.le_refl _)
  have hf2 : n < (n / d + 1) * d := (Int.ediv_lt_iff_lt_mul (show 0 < d by omega)).1 (by omega)
  unfold rootQ
  generalize hr : rootN (n / d).toNat = r at a b ⊢
  obtain ⟨u, hu1⟩ : ∃ u : Nat, up n d = (u : Int) := ⟨(up n d).toNat, by omega⟩
  rw [hu1, Int.toNat_natCast]
  rw [hu1] at hu
  split
  · rename_i h
    have h1 : (u : Int) ≤ (r : Int) * r := (hu _).2 (by omega)
    have h2 : (r : Int) * r ≤ u := by
      rcases Int.lt_or_le (u : Int) ((r : Int) * r) with h3 | h3
      · have h4 := (hu ((r : Int) * r - 1)).1 (by omega)
        rw [Int.sub_mul] at h4
        omega
      · exact h3
    have h5 : u = r * r := by have e : ((r * r : Nat) : Int) = (r : Int) * r := Int.natCast_mul r r; omega
    rw [h5, rupN_sq]
  · rename_i h
    have h1 : (r : Int) * r < u := by
      rcases Int.lt_or_le ((r : Int) * r) u with h3 | h3
      · exact h3
      · exfalso
        have h4 := (hu _).1 h3
        have h5 : (r : Int) * r * d ≤ n / d * d := Int.mul_le_mul_of_nonneg_right a (by omega)
        omega
    have h2 : (u : Int) ≤ ((r : Int) + 1) * (r + 1) := by
      refine (hu _).2 ?_
      have h6 : (n / d + 1) * d ≤ ((r : Int) + 1) * (r + 1) * d := Int.mul_le_mul_of_nonneg_right (by omega) (by omega)
      omega
    have e1 : ((r * r : Nat) : Int) = (r : Int) * r := Int.natCast_mul r r
    have e2 : (((r + 1) * (r + 1) : Nat) : Int) = ((r : Int) + 1) * (r + 1) := by rw [Int.natCast_mul]; simp
    rw [rupN_eq (n := u) (r := r) (by omega) (by omega)]
    simp
theorem up_scale {k n d : Int} (hk : 0 < k) (hd : 0 < d) : up (k * n) (k * d) = up n d := by
  have h : ∀ m, up (k * n) (k * d) ≤ m ↔ up n d ≤ m := fun m => by
    rw [up_le hd, up_le (Int.mul_pos hk hd), Int.mul_left_comm]
    exact Int.mul_le_mul_left hk
  have h1 := (h (up n d)).2 (Int.le_refl _)
  have h2 := (h (up (k * n) (k * d))).1 (Int.le_refl _)
  omega
theorem rootQ_scale {k n d : Int} (hk : 0 < k) (h0 : 0 ≤ n) (d0 : 1 ≤ d) : rootQ (k * n) (k * d) = rootQ n d := by
  have hkd : 1 ≤ k * d := by have := Int.mul_pos hk (show 0 < d by omega); omega
  rw [rootQ_up (Int.mul_nonneg (by omega) h0) hkd, rootQ_up h0 d0, up_scale hk (by omega), Int.mul_ediv_mul_of_pos _ _ hk]
end Go.Proofs.Ytkcjiejdjdcbeaa

/- Contracts: the reference's leg, whole numbers as fractions. -/
set_option linter.unusedSimpArgs false
set_option linter.unusedVariables false
namespace Go.Proofs.Ytkcjiejdjdcbeaa
open Go.RowKit
set_option maxRecDepth 100000

theorem sqp5 {f : Int} (h : 1 ≤ f) : 1 ≤ f * f := by
  have := Int.mul_le_mul_of_nonneg_left h (show 0 ≤ f by omega)
  omega
theorem idxQ_free {f : Int} (h : 1 ≤ f) : idxQ 0 f = (1, 1) := by
  have hF := sqp5 h
  unfold idxQ redQ
  rw [Int.sub_zero]
  generalize f * f = F at hF ⊢
  have hg : (Int.gcd F F : Int) = F := by rw [Int.gcd_self]; omega
  rw [hg, Int.ediv_self (by omega)]
theorem whole_c (n : Int) (w : World) : Calls Try.prog 44 #[.int .i64 n] w fun r w' => r = .returned (.agg #[.int .i64 n, .int .i64 1]) ∧ Below w.heap.size w w' := by
  obtain ⟨p, hp⟩ : ∃ p, w.heap.size = p := ⟨_, rfl⟩
  obtain ⟨W, hW⟩ : ∃ W, w.alloc (.cells #[.int .i64 0, .int .i64 0] 26) = W := ⟨_, rfl⟩
  have hB0 : Below p w W := by rw [← hW, ← hp]; exact alloc_bel _ _
  have hX : Blk W p 26 [.int .i64 0, .int .i64 0] := by rw [← hW, ← hp]; exact Blk.new w _ [_, _]
  have HW := hide hW
  clear hW
  obtain ⟨x0, x1, f0, f1⟩ := blk_two hX
  have hz := hX.lt
  go_enter Try.func44, Try.ntmps44
  go_upto_region 1 with fail
  try simp only [hp]
  rw [HW.out]
  go_wp2
  obtain ⟨WE, hWE⟩ : ∃ WE, (W.setCell ⟨p, 0, none⟩ (.int .i64 n)).setCell ⟨p, 1, none⟩ (.int .i64 1) = WE := ⟨_, rfl⟩
  rw [hWE]
  have hE : Blk WE p 26 [.int .i64 n, .int .i64 1] := by rw [← hWE]; exact (hX.set_ 0 _).set_ 1 _
  have hBE : Below p w WE := by rw [← hWE]; exact (hB0.setCell (Nat.le_refl _) _).setCell (Nat.le_refl _) _
  clear hWE
  have g0 := hE.cell 0; have g1 := hE.cell 1; simp only [List.getElem?_cons_zero, List.getElem?_cons_succ] at g0 g1
  exact bodyPost_ret (v := .agg #[.int .i64 n, .int .i64 1]) (by simp [results, Try.results44, go_sem, g0, g1]; try rfl) rfl ⟨rfl, by first | exact hBE | (rw [hp]; exact hBE)⟩
set_option maxHeartbeats 4000000 in
theorem refLeg_c (a b n d t : Int) (w : World) (h1 : 0 ≤ n * b) (h2 : n * b ≤ 900000000) (t0 : 0 ≤ t) (t1 : t ≤ 500) (h3 : 1 ≤ d * a - n * b) (h4 : d * a ≤ 900000000) (h5 : 0 ≤ d * a) :
    Calls Try.prog 111 #[.int .i64 t, .agg #[.int .i64 a, .int .i64 b], .agg #[.int .i64 n, .int .i64 d]] w fun r w' => r = .returned (.agg #[.int .i64 (rootQ (100 * t * (100 * t) * (n * b)) (d * a - n * b)).1, .int .i64 (rootQ (100 * t * (100 * t) * (n * b)) (d * a - n * b)).2]) ∧ Below w.heap.size w w' := by
  have hK1 : 100 * t * 100 * t = 100 * t * (100 * t) := Int.mul_assoc ..
  have hK2 : 100 * t * (100 * t) ≤ 50000 * 50000 := Int.mul_le_mul (by omega) (by omega) (by omega) (by omega)
  have hK3 : 0 ≤ 100 * t * (100 * t) := Int.mul_nonneg (by omega) (by omega)
  rw [← hK1] at hK2 hK3 ⊢
  rw [Int.mul_comm d a] at h3 h4 h5 ⊢
  generalize hX : n * b = X at *
  generalize hY : a * d = Y at *
  obtain ⟨K, hK⟩ : ∃ K, 100 * t * 100 * t = K := ⟨_, rfl⟩
  rw [hK] at hK2 hK3 ⊢
  clear hK1
  have g1 := gcd_pos X (Y - X) (by omega)
  have g2 := gcd_le X (Y - X) (by omega)
  have m := redQ_mul X (Y - X)
  have rd := redQ_den X (Y - X) (by omega)
  have rn := redQ_nonneg X (Y - X) h1
  unfold redQ at m rd rn
  dsimp only at m rd rn
  have HC := hide (fun W => gcd_c X (Y - X) W (by omega) (by omega) (by omega) (by omega))
  generalize (Int.gcd X (Y - X) : Int) = g at g1 g2 m rd rn HC
  obtain ⟨p, hp⟩ : ∃ p, X / g = p := ⟨_, rfl⟩
  obtain ⟨s, hs⟩ : ∃ s, (Y - X) / g = s := ⟨_, rfl⟩
  rw [hp] at m rn
  rw [hs] at m rd
  have hpX : p ≤ X := by have := Int.mul_le_mul_of_nonneg_left g1 rn; omega
  have hS1 : 0 ≤ K * p := Int.mul_nonneg hK3 rn
  have hS2 : K * p ≤ 2500000000 * 900000000 := Int.mul_le_mul (by omega) (by omega) rn (by omega)
  have HR : Hid (rootQ (K * X) (Y - X) = ((rootN (K * p / s).toNat : Int), (rupN (up (K * p) s).toNat : Int))) := by
    show _ = _
    rw [← rootQ_up hS1 rd.1, ← rootQ_scale (k := g) (by omega) hS1 rd.1]
    congr 1
    · rw [← m.1, ← Int.mul_assoc, Int.mul_comm]
    · rw [← m.2, Int.mul_comm]
  obtain ⟨S, hS⟩ : ∃ S, K * p = S := ⟨_, rfl⟩
  rw [hS] at hS1 hS2 HR
  have hv0 : 0 ≤ S / s := Int.ediv_nonneg hS1 (by omega)
  have hv1 : S / s ≤ S := Int.ediv_le_self _ hS1
  have hu1 : up S s ≤ S := (up_le (by omega)).2 (by have := Int.mul_le_mul_of_nonneg_left rd.1 hS1; omega)
  have hu0 : 0 ≤ up S s := by
    rcases Int.lt_or_le (up S s) 0 with h | h
    · have h9 := (up_le (n := S) (d := s) (m := -1) (by omega)).1 (by omega)
      rw [Int.neg_one_mul] at h9
      omega
    · exact h
  have HCE := hide (fun W => ceil_c S s W (by omega) (by omega) rd.1 (by omega))
  obtain ⟨u, hu⟩ : ∃ u : Nat, up S s = (u : Int) := ⟨(up S s).toNat, by omega⟩
  obtain ⟨v, hv⟩ : ∃ v : Nat, S / s = (v : Int) := ⟨(S / s).toNat, by omega⟩
  rw [hu] at HCE HR hu1 hu0
  rw [hv] at HR hv0 hv1
  rw [Int.toNat_natCast, Int.toNat_natCast] at HR
  have HRT := hide (fun W => root2_c v (by omega) W)
  have HRU := hide (fun W => rootUp_c u (by omega) W)
  generalize (rootN v : Int) = r1 at HRT HR
  generalize (rupN u : Int) = r2 at HRU HR
  have e1 : (g == 0) = false := by simp; omega
  have e2 : (g == -1) = false := by simp; omega
  have e3 : ¬ g = 0 := by omega
  have e4 : (s == 0) = false := by simp; omega
  have e5 : (s == -1) = false := by simp; omega
  have e6 : ¬ s = 0 := by omega
  have wp1 : IntKind.i64.wrap p = p := by simp (disch := omega) only [IntWalk.i64_in]
  have ws1 : IntKind.i64.wrap s = s := by simp (disch := omega) only [IntWalk.i64_in]
  have wY : Y - X ≤ 900000000 := by omega
  clear m hpX hu
  obtain ⟨q, hq⟩ : ∃ q, w.heap.size = q := ⟨_, rfl⟩
  obtain ⟨q1, hq1⟩ : ∃ q1, q + 1 = q1 := ⟨_, rfl⟩
  obtain ⟨q2, hq2⟩ : ∃ q2, q1 + 1 = q2 := ⟨_, rfl⟩
  obtain ⟨Wa, hWa⟩ : ∃ Wa, w.alloc (.cells #[.int .i64 a, .int .i64 b] 26) = Wa := ⟨_, rfl⟩
  have ba : Below w.heap.size w Wa := by rw [← hWa]; exact alloc_bel _ _
  have sa : Wa.heap.size = q1 := by rw [← hWa, ← hq1, ← hq]; simp
  have ka : Blk Wa q 26 [.int .i64 a, .int .i64 b] := by rw [← hWa, ← hq]; exact Blk.new w _ [_, _]
  obtain ⟨Wb, hWb⟩ : ∃ Wb, Wa.alloc (.cells #[.int .i64 n, .int .i64 d] 26) = Wb := ⟨_, rfl⟩
  have bb : Below Wa.heap.size Wa Wb := by rw [← hWb]; exact alloc_bel _ _
  have sb : Wb.heap.size = q2 := by rw [← hWb, ← hq2, ← sa]; simp
  have kb : Blk Wb q1 26 [.int .i64 n, .int .i64 d] := by rw [← hWb, ← sa]; exact Blk.new Wa _ [_, _]
  obtain ⟨W, hWc⟩ : ∃ W, Wb.alloc (.cells #[.int .i64 0, .int .i64 0] 55) = W := ⟨_, rfl⟩
  have bc : Below Wb.heap.size Wb W := by rw [← hWc]; exact alloc_bel _ _
  have kc : Blk W q2 55 [.int .i64 0, .int .i64 0] := by rw [← hWc, ← sb]; exact Blk.new Wb _ [_, _]
  have hABC : ((w.alloc (.cells #[.int .i64 a, .int .i64 b] 26)).alloc (.cells #[.int .i64 n, .int .i64 d] 26)).alloc (.cells #[.int .i64 0, .int .i64 0] 55) = W := by rw [hWa, hWb, hWc]
  have HW := hide hABC
  have k1 := (ka.bel bb).bel bc
  have k2 := kb.bel bc
  have hBW : Below q w W := by
    rw [hq] at ba
    exact (ba.trans (bb.mono (by omega))).trans (bc.mono (by omega))
  have z1 : q < W.heap.size := k1.lt
  have z2 : q1 < W.heap.size := k2.lt
  have z3 : q2 < W.heap.size := kc.lt
  clear hABC hWa hWb hWc ba bb bc ka kb sa sb
  have s0 := k1.cell 0; have s1 := k1.cell 1; simp only [List.getElem?_cons_zero, List.getElem?_cons_succ] at s0 s1
  have t0 := k2.cell 0; have t1 := k2.cell 1; simp only [List.getElem?_cons_zero, List.getElem?_cons_succ] at t0 t1
  go_enter Try.func111, Try.ntmps111
  go_upto_region 1 with fail
  try simp only [World.size_alloc, hq, hq1, hq2]
  rw [HW.out]
  go_quiet (fail)
  go_upto_region 3 with (go_at_call 149; refine (HC.out _).mono ?_; rintro e_ w1 ⟨rfl, hb1⟩)
  have hb1' : Below W.heap.size W w1 := bel_tr (below_drewN (Below.refl _ _) _) (Nat.le_refl _) hb1
  have kc1 := kc.bel hb1'
  have hB1 : Below q w w1 := hBW.trans (hb1'.mono (by omega))
  go_quiet (fail)
  have kc2 : Blk (w1.drewN nq) q2 55 [.int .i64 0, .int .i64 0] := kc1.drewN _
  have hB2 : Below q w (w1.drewN nq) := below_drewN hB1 _
  generalize w1.drewN nq = w2 at kc2 hB2 ⊢
  obtain ⟨x0, x1, f0, f1⟩ := blk_two kc2
  have zz := kc2.lt
  clear kc1 kc hB1 hBW hb1 hb1' s0 s1 t0 t1
  go_wp2_with (first
    | (go_at_call 101; refine (HRT.out _).mono ?_; rintro e_ w_ ⟨rfl, rfl⟩)
    | (go_at_call 114; refine (HCE.out _).mono ?_; rintro e_ w_ ⟨rfl, rfl⟩)
    | (go_at_call 113; refine (HRU.out _).mono ?_; rintro e_ w_ ⟨rfl, rfl⟩))
  obtain ⟨WE, hWE⟩ : ∃ WE, (w2.setCell ⟨q2, 0, none⟩ (.int .i64 r1)).setCell ⟨q2, 1, none⟩ (.int .i64 r2) = WE := ⟨_, rfl⟩
  rw [hWE]
  have hE : Blk WE q2 55 [.int .i64 r1, .int .i64 r2] := by rw [← hWE]; exact (kc2.set_ 0 _).set_ 1 _
  have hqq : q ≤ q2 := by omega
  have hBE : Below q w WE := by rw [← hWE]; exact (hB2.setCell hqq _).setCell hqq _
  clear hWE
  have g0 := hE.cell 0; have g1 := hE.cell 1; simp only [List.getElem?_cons_zero, List.getElem?_cons_succ] at g0 g1
  exact bodyPost_ret (v := .agg #[.int .i64 r1, .int .i64 r2]) (by simp [results, Try.results111, go_sem, g0, g1]; try rfl) rfl ⟨by rw [HR.out], by first | exact hBE | (rw [hq]; exact hBE)⟩
end Go.Proofs.Ytkcjiejdjdcbeaa

/- Contracts: the reference's apex and legs. -/
set_option linter.unusedSimpArgs false
set_option linter.unusedVariables false
namespace Go.Proofs.Ytkcjiejdjdcbeaa
open Go.RowKit
set_option maxRecDepth 100000

theorem cmp_hit {f n d : Int} {g : G} : decide (cmpQ (idxQ g.2 f).1 (idxQ g.2 f).2 n d ≤ 0) = hitB f n d g := by
  unfold cmpQ hitB
  by_cases h : (idxQ g.2 f).1 * d ≤ n * (idxQ g.2 f).2
  · rw [decide_eq_true h]
    split
    · rfl
    · rw [if_neg (by omega)]; rfl
  · rw [decide_eq_false h, if_neg (by omega), if_pos (by omega)]
    rfl
theorem pas_ge {f n d : Int} {l : List G} {k : Nat} (hk : k ≤ l.length) (h0 : ∀ j (h : j < l.length), j < k → hitB f n d l[j] = false) (h1 : k = l.length ∨ ∃ h : k < l.length, hitB f n d l[k] = true) : pasN f n d l = k := by
  unfold pasN
  rcases h1 with rfl | ⟨h, h2⟩
  · rw [List.findIdx_eq_length]
    intro x hx
    obtain ⟨j, hj, rfl⟩ := List.getElem_of_mem hx
    exact h0 j hj hj
  · rw [List.findIdx_eq h]
    exact ⟨h2, fun j hj => h0 j (by omega) hj⟩
set_option maxHeartbeats 4000000 in
theorem refApex_c (H f n d : Int) (A : Option Addr) (c : Nat) (l : List G) (w : World) (hr : Rd w A (gs l)) (ho : OkR H f n d l) :
    Calls Try.prog 35 #[.agg #[.int .i64 H, .slice A l.length c], .int .i64 f, .agg #[.int .i64 n, .int .i64 d]] w fun r w' => r = .returned (.int .i64 (pasN f n d l : Int)) ∧ Below w.heap.size w w' := by
  have HIX := hide (fun W (h : Rd W A (gs l)) => refIndexes_c H f A c l W h (by have := ho.l1; omega) ho.ok ho.f0 ho.f1)
  have hd0 := ho.d0
  have hd1 := ho.d1
  have hn0 := ho.n0
  have hn1 := ho.n1
  have hll := ho.l1
  have HBD : Hid (∀ k (h : k < l.length), 1 ≤ (idxQ l[k].2 f).2 ∧ (idxQ l[k].2 f).2 ≤ 9000000 ∧ -9000000 ≤ (idxQ l[k].2 f).1 ∧ (idxQ l[k].2 f).1 ≤ 9000000) := fun k h => by have o := ho.ok _ (List.getElem_mem h); exact idxQ_bd ho.f0 ho.f1 o.2.2.1 o.2.2.2
  have hlen : (idxL f l).length = l.length := by simp [idxL]
  obtain ⟨q, hq⟩ : ∃ q, w.heap.size = q := ⟨_, rfl⟩
  obtain ⟨q1, hq1⟩ : ∃ q1, q + 1 = q1 := ⟨_, rfl⟩
  obtain ⟨Wa, hWa⟩ : ∃ Wa, w.alloc (.cells #[.int .i64 H, .slice A l.length c] 24) = Wa := ⟨_, rfl⟩
  have ba : Below w.heap.size w Wa := by rw [← hWa]; exact alloc_bel _ _
  have sa : Wa.heap.size = q1 := by rw [← hWa, ← hq1, ← hq]; simp
  have ka : Blk Wa q 24 [.int .i64 H, .slice A l.length c] := by rw [← hWa, ← hq]; exact Blk.new w _ [_, _]
  obtain ⟨w0, hWb⟩ : ∃ w0, Wa.alloc (.cells #[.int .i64 n, .int .i64 d] 26) = w0 := ⟨_, rfl⟩
  have bb : Below Wa.heap.size Wa w0 := by rw [← hWb]; exact alloc_bel _ _
  have kL0 : Blk w0 q1 26 [.int .i64 n, .int .i64 d] := by rw [← hWb, ← sa]; exact Blk.new Wa _ [_, _]
  have hAB : (w.alloc (.cells #[.int .i64 H, .slice A l.length c] 24)).alloc (.cells #[.int .i64 n, .int .i64 d] 26) = w0 := by rw [hWa, hWb]
  have HW := hide hAB
  have kS0 := ka.bel bb
  have hr0 := (hr.bel ba).bel bb
  have hB0 : Below q w w0 := by
    rw [hq] at ba
    exact ba.trans (bb.mono (by omega))
  have z0 : q ≤ w0.heap.size := by have := kS0.lt; omega
  have y0 := kS0.lt
  have x0 := kL0.lt
  clear hAB hWa hWb ba bb ka sa
  have s0 := kS0.cell 0; have s1 := kS0.cell 1; simp only [List.getElem?_cons_zero, List.getElem?_cons_succ] at s0 s1
  have t0 := kL0.cell 0; have t1 := kL0.cell 1; simp only [List.getElem?_cons_zero, List.getElem?_cons_succ] at t0 t1
  go_enter Try.func35, Try.ntmps35
  go_upto_region 1 with fail
  try simp only [World.size_alloc, hq, hq1]
  rw [HW.out]
  go_upto_region 2 with (go_at_call 26; refine (HIX.out _ hr0).mono ?_; rintro e_ w1 ⟨⟨A1, c1, rfl, ra1⟩, hb1⟩)
  have kL1 := kL0.bel hb1
  have hB1 : Below q w w1 := hB0.trans (hb1.mono z0)
  have x1 := kL1.lt
  clear s0 s1 t0 t1 kS0 kL0 hr0 hB0 z0 y0 x0 hb1
  have HLEN := hide hlen
  clear hlen
  go_wp2
  go_loopw [8] (fun i wr => ∃ k : Nat, k ≤ l.length ∧ i = .int .i64 k ∧ Below w1.heap.size w1 wr ∧ Hid (∀ j (h : j < l.length), j < k → hitB f n d l[j] = false)) (fun i _ => l.length - (intOf i).toNat)
  case atStart => exact ⟨0, Nat.zero_le _, rfl, Below.refl _ _, fun _ _ h => by omega⟩
  case round =>
    obtain ⟨k, hk, rfl, hb, h0⟩ := hrel
    have kLr := kL1.bel hb
    have rar := ra1.bel hb
    have xr := kLr.lt
    have t0 := kLr.cell 0; have t1 := kLr.cell 1; simp only [List.getElem?_cons_zero, List.getElem?_cons_succ] at t0 t1
    by_cases hlt : k < l.length
    · obtain ⟨b, off, rfl, hblt, hc0, hc1⟩ := rar.g_at (show k < (idxL f l).length by rw [HLEN.out]; exact hlt)
      have hbd := HBD.out k hlt
      have hck := cmp_hit (f := f) (n := n) (d := d) (g := l[k])
      rw [show (idxL f l)[k]'(by rw [HLEN.out]; exact hlt) = idxQ l[k].2 f by simp [idxL]] at hc0 hc1
      have HCM := hide (fun W => cmp_c (idxQ l[k].2 f).1 (idxQ l[k].2 f).2 n d W (by omega) (by omega) (by omega) (by omega) (by omega) (by omega) (by omega) (by omega))
      have HHT : Hid (hitB f n d l[k] = hitB f n d l[k]) := rfl
      generalize (idxQ l[k].2 f).1 = ia at hc0 HCM hck
      generalize (idxQ l[k].2 f).2 = ib at hc1 HCM hck
      generalize cmpQ ia ib n d = e at HCM hck
      have hSd : (∀ b o, b < wr.heap.size → wr.drew.cell? ⟨b, o, none⟩ = wr.cell? ⟨b, o, none⟩) ∧ Below wr.heap.size wr wr.drew := kp (Below.refl _ _).drew
      have ik : (k : Int) < (l.length : Int) := by omega
      by_cases hz : hitB f n d l[k] = true
      · have he : e ≤ 0 := by rw [hz] at hck; simpa using hck
        have HP : Hid (pasN f n d l = k) := pas_ge hk (fun j h hj => h0.out j h hj) (.inr ⟨hlt, hz⟩)
        clear hz hck HHT
        go_upto_region 5 with fail
        refine wp_region_held (S := fun w' => (∀ b o, b < wr.heap.size → w'.cell? ⟨b, o, none⟩ = wr.cell? ⟨b, o, none⟩) ∧ Below wr.heap.size wr w') (by kernel_rfl) ?_
        change wpAnyH _ _ _ _ _ _ _ _ wr.drew
        refine wpAnyH_take (i := 0) (v := ?_) rfl (by kernel_rfl) (by kernel_rfl) (by kernel_rfl) (fun _ _ _ h => h) (Or.inl ⟨by kernel_rfl, ?_⟩) (by assumption) ?_
        rotate_left 1
        · (intro w hSw; obtain ⟨hk1, hk2⟩ := hSw; go_simp <;> with_reducible rfl)
        simp only [Act.put, List.getElem_toArray, List.getElem_cons_zero, List.setIfInBounds_toArray, List.set_cons_zero, List.set_cons_succ]
        refine wpAnyH_take (i := 1) (v := ?_) rfl (by kernel_rfl) (by kernel_rfl) (by kernel_rfl) (fun _ _ _ h => h) (Or.inl ⟨by kernel_rfl, ?_⟩) (by assumption) ?_
        rotate_left 1
        · (intro w hSw; obtain ⟨hk1, hk2⟩ := hSw; go_simp <;> with_reducible rfl)
        simp only [Act.put, List.getElem_toArray, List.getElem_cons_zero, List.getElem_cons_succ, List.setIfInBounds_toArray, List.set_cons_zero, List.set_cons_succ]
        refine wpAnyH_take (i := 2) (v := ?_) rfl (by kernel_rfl) (by kernel_rfl) (by kernel_rfl) (fun _ _ _ h => h) (Or.inl ⟨by kernel_rfl, ?_⟩) (by assumption) ?_
        rotate_left 1
        · (intro w hSw; obtain ⟨hk1, hk2⟩ := hSw; go_simp <;> with_reducible rfl)
        simp only [Act.put, List.getElem_toArray, List.getElem_cons_zero, List.getElem_cons_succ, List.setIfInBounds_toArray, List.set_cons_zero, List.set_cons_succ]
        refine wpAnyH_take (i := 3) (v := ?_) rfl (by kernel_rfl) (by kernel_rfl) (by kernel_rfl) (fun _ _ _ h => h) (Or.inl ⟨by kernel_rfl, ?_⟩) (by assumption) ?_
        rotate_left 1
        · (intro w hSw; obtain ⟨hk1, hk2⟩ := hSw; go_simp <;> with_reducible rfl)
        simp only [Act.put, List.getElem_toArray, List.getElem_cons_zero, List.getElem_cons_succ, List.setIfInBounds_toArray, List.set_cons_zero, List.set_cons_succ]
        refine wpAnyH_take (i := 4) (v := ?_) rfl (by kernel_rfl) (by kernel_rfl) (by kernel_rfl) (fun _ _ _ h => h) (Or.inl ⟨by kernel_rfl, ?_⟩) (by assumption) ?_
        rotate_left 1
        · (intro w hSw; obtain ⟨hk1, hk2⟩ := hSw; go_simp <;> with_reducible rfl)
        simp only [Act.put, List.getElem_toArray, List.getElem_cons_zero, List.getElem_cons_succ, List.setIfInBounds_toArray, List.set_cons_zero, List.set_cons_succ]
        refine nextH (i := 5) (by kernel_rfl) rfl (fun K hK => ?_)
        go_simp
        refine (HCM.out _).mono ?_
        rintro e_ w5 ⟨rfl, hb5⟩
        have hS' := kp (bel_tr hSd.2 hSd.2.size hb5)
        try dsimp only
        refine hK _ _ hS' ?_
        clear hK K hSd
        have hSd := hS'
        clear hS'
        refine wpAnyH_take (i := 6) (v := ?_) rfl (by kernel_rfl) (by kernel_rfl) (by kernel_rfl) (fun _ _ _ h => h) (Or.inl ⟨by kernel_rfl, ?_⟩) (by assumption) ?_
        rotate_left 1
        · (intro w hSw; obtain ⟨hk1, hk2⟩ := hSw; go_simp <;> with_reducible rfl)
        simp only [Act.put, List.getElem_toArray, List.getElem_cons_zero, List.getElem_cons_succ, List.setIfInBounds_toArray, List.set_cons_zero, List.set_cons_succ]
        refine wpAnyH_done (by kernel_rfl) ?_ _
        have hBz : Below q w w5 := hB1.trans ((bel_tr hb hb.size hSd.2).mono (by omega))
        go_wp2
        go_ret
        exact ⟨ret_int (by rw [HP.out]), by first | exact hBz | (rw [hq]; exact hBz)⟩
      · have hz' : hitB f n d l[k] = false := by simpa using hz
        have he : ¬ e ≤ 0 := by rw [hz'] at hck; simpa using hck
        have H1 : Hid (∀ j (h : j < l.length), j < k + 1 → hitB f n d l[j] = false) := fun j h hj => by
          by_cases e : j = k
          · subst e; exact hz'
          · exact h0.out j h (by omega)
        clear hz hz' hck HHT
        go_upto_region 5 with fail
        refine wp_region_held (S := fun w' => (∀ b o, b < wr.heap.size → w'.cell? ⟨b, o, none⟩ = wr.cell? ⟨b, o, none⟩) ∧ Below wr.heap.size wr w') (by kernel_rfl) ?_
        change wpAnyH _ _ _ _ _ _ _ _ wr.drew
        refine wpAnyH_take (i := 0) (v := ?_) rfl (by kernel_rfl) (by kernel_rfl) (by kernel_rfl) (fun _ _ _ h => h) (Or.inl ⟨by kernel_rfl, ?_⟩) (by assumption) ?_
        rotate_left 1
        · (intro w hSw; obtain ⟨hk1, hk2⟩ := hSw; go_simp <;> with_reducible rfl)
        simp only [Act.put, List.getElem_toArray, List.getElem_cons_zero, List.setIfInBounds_toArray, List.set_cons_zero, List.set_cons_succ]
        refine wpAnyH_take (i := 1) (v := ?_) rfl (by kernel_rfl) (by kernel_rfl) (by kernel_rfl) (fun _ _ _ h => h) (Or.inl ⟨by kernel_rfl, ?_⟩) (by assumption) ?_
        rotate_left 1
        · (intro w hSw; obtain ⟨hk1, hk2⟩ := hSw; go_simp <;> with_reducible rfl)
        simp only [Act.put, List.getElem_toArray, List.getElem_cons_zero, List.getElem_cons_succ, List.setIfInBounds_toArray, List.set_cons_zero, List.set_cons_succ]
        refine wpAnyH_take (i := 2) (v := ?_) rfl (by kernel_rfl) (by kernel_rfl) (by kernel_rfl) (fun _ _ _ h => h) (Or.inl ⟨by kernel_rfl, ?_⟩) (by assumption) ?_
        rotate_left 1
        · (intro w hSw; obtain ⟨hk1, hk2⟩ := hSw; go_simp <;> with_reducible rfl)
        simp only [Act.put, List.getElem_toArray, List.getElem_cons_zero, List.getElem_cons_succ, List.setIfInBounds_toArray, List.set_cons_zero, List.set_cons_succ]
        refine wpAnyH_take (i := 3) (v := ?_) rfl (by kernel_rfl) (by kernel_rfl) (by kernel_rfl) (fun _ _ _ h => h) (Or.inl ⟨by kernel_rfl, ?_⟩) (by assumption) ?_
        rotate_left 1
        · (intro w hSw; obtain ⟨hk1, hk2⟩ := hSw; go_simp <;> with_reducible rfl)
        simp only [Act.put, List.getElem_toArray, List.getElem_cons_zero, List.getElem_cons_succ, List.setIfInBounds_toArray, List.set_cons_zero, List.set_cons_succ]
        refine wpAnyH_take (i := 4) (v := ?_) rfl (by kernel_rfl) (by kernel_rfl) (by kernel_rfl) (fun _ _ _ h => h) (Or.inl ⟨by kernel_rfl, ?_⟩) (by assumption) ?_
        rotate_left 1
        · (intro w hSw; obtain ⟨hk1, hk2⟩ := hSw; go_simp <;> with_reducible rfl)
        simp only [Act.put, List.getElem_toArray, List.getElem_cons_zero, List.getElem_cons_succ, List.setIfInBounds_toArray, List.set_cons_zero, List.set_cons_succ]
        refine nextH (i := 5) (by kernel_rfl) rfl (fun K hK => ?_)
        go_simp
        refine (HCM.out _).mono ?_
        rintro e_ w5 ⟨rfl, hb5⟩
        have hS' := kp (bel_tr hSd.2 hSd.2.size hb5)
        try dsimp only
        refine hK _ _ hS' ?_
        clear hK K hSd
        have hSd := hS'
        clear hS'
        refine wpAnyH_take (i := 6) (v := ?_) rfl (by kernel_rfl) (by kernel_rfl) (by kernel_rfl) (fun _ _ _ h => h) (Or.inl ⟨by kernel_rfl, ?_⟩) (by assumption) ?_
        rotate_left 1
        · (intro w hSw; obtain ⟨hk1, hk2⟩ := hSw; go_simp <;> with_reducible rfl)
        simp only [Act.put, List.getElem_toArray, List.getElem_cons_zero, List.getElem_cons_succ, List.setIfInBounds_toArray, List.set_cons_zero, List.set_cons_succ]
        refine wpAnyH_done (by kernel_rfl) ?_ _
        have hbn := bel_tr hb hb.size hSd.2
        go_wp2
        go_roundw
        case rel => exact ⟨k + 1, by omega, by go_num, hbn, H1⟩
        case measure => simp [intOf]; omega
    · obtain rfl : k = l.length := by omega
      have HP : Hid (pasN f n d l = l.length) := pas_ge (Nat.le_refl _) (fun j h hj => h0.out j h hj) (.inl rfl)
      have hBz : Below q w wr := hB1.trans (hb.mono (by omega))
      go_wp2
      go_ret
      exact ⟨ret_int (by rw [HP.out]), by first | exact hBz | (rw [hq]; exact hBz)⟩
end Go.Proofs.Ytkcjiejdjdcbeaa

/- Contracts: the reference's legs. -/
set_option linter.unusedSimpArgs false
set_option linter.unusedVariables false
namespace Go.Proofs.Ytkcjiejdjdcbeaa
open Go.RowKit
set_option maxRecDepth 100000

set_option maxHeartbeats 2000000 in
theorem refIndexes_own (H f : Int) (A : Option Addr) (c : Nat) (l : List G) (w : World) (hr : Rd w A (gs l)) (hl : l.length ≤ 1000) (hok : OkS l) (f0 : 1 ≤ f) (f1 : f ≤ 3000) :
    Calls Try.prog 26 #[.agg #[.int .i64 H, .slice A l.length c], .int .i64 f] w fun r w' => (∃ A' c' b, r = .returned (.slice A' l.length c') ∧ w.heap.size ≤ b ∧ w'.ownsRow b 26 2 (.slice A' l.length c') l.length (gs (idxL f l))) ∧ Below w.heap.size w w' := by
  obtain ⟨i0, hi, iz0, iz1, iz2⟩ := info_parts Try.infoQ
  have hX := Blk.new w 24 [.int .i64 H, .slice A l.length c]
  have hbel := alloc_bel w (.cells #[.int .i64 H, .slice A l.length c] 24)
  have hrW := hr.bel hbel
  generalize hW : w.alloc (.cells #[.int .i64 H, .slice A l.length c] 24) = W at hX hbel hrW
  have HW := hide hW
  clear hW
  have mf := mul_bd (show 0 ≤ f by omega) f1 (show 0 ≤ f by omega) f1
  have mf1 := Int.mul_le_mul_of_nonneg_left f0 (show 0 ≤ f by omega)
  obtain ⟨F, hF⟩ : ∃ F, f * f = F := ⟨_, rfl⟩
  rw [hF] at mf
  have hF1 : 1 ≤ F := by omega
  have c0 := hX.cell 0; have c1 := hX.cell 1; simp only [List.getElem?_cons_zero, List.getElem?_cons_succ] at c0 c1
  go_enter Try.func26, Try.ntmps26
  go_upto_region 1 with fail
  rw [HW.out]
  go_wp2
  go_loopw [5, 6] (fun v i wr => ∃ k : Nat, k ≤ l.length ∧ i = .int .i64 k ∧ Below W.heap.size W wr ∧ wr.ownsRow W.heap.size 26 2 v k (gs (idxL f (l.take k)))) (fun _ i _ => l.length - (intOf i).toNat)
  case atStart => exact ⟨0, Nat.zero_le _, rfl, Below.refl _ _, by simpa [idxL] using World.ownsRow_nil _ _ _ _⟩
  case round =>
    clear c0 c1
    obtain ⟨k, hk, rfl, hb, hown⟩ := hrel
    have hXr := hX.bel hb
    have hzx := hXr.lt
    have hsz := hb.size
    have c0 := hXr.cell 0; have c1 := hXr.cell 1; simp only [List.getElem?_cons_zero, List.getElem?_cons_succ] at c0 c1
    obtain ⟨A3, c3, rfl⟩ := ownsRow_slice hown
    by_cases hlt : k < l.length
    · obtain ⟨b, off, rfl, hblt, x0, x1⟩ := (hrW.bel hb).g_at hlt
      have o := hok _ (List.getElem_mem hlt)
      have HT := hide (idxL_take (f := f) hlt)
      have HQ : redQ (F - l[k].2) F = idxQ l[k].2 f := by rw [← hF]; rfl
      have HLW := hide (fun W' => lowest_c (F - l[k].2) F W' hF1 (by omega) (by omega) (by omega))
      rw [HQ] at HLW
      clear HQ
      generalize idxQ l[k].2 f = z at HLW HT
      generalize l[k] = y at x0 x1 o HLW
      obtain ⟨y1, y2⟩ := y
      obtain ⟨z1, z2⟩ := z
      dsimp only at x0 x1 o HLW
      go_wp2_with (first
        | (go_at_call 87; refine (HLW.out _).mono ?_; rintro e_ w5 ⟨rfl, hb5⟩)
        | (at_builtin; refine wpList_append_own _ rfl _ _ 33 rfl W.heap.size 26 i0 _ 2 16 Try.underlying33 hi iz0 iz1 iz2 rfl (by decide) _ _ _ rfl ((ownsRow_bel hown hb5).alloc _) ⟨w5.heap.size, 0, none⟩ 1 1 [.int .i64 z1, .int .i64 z2] rfl rfl (World.news_of_block (heap_alloc_new w5 _)) (by simp [Value.oneCell']) (by unfold maxLen; omega) (by omega) (by have := hb5.size; simp; omega) ?_; intro v' w8 hown8 hg8 _))
      have hb7 : Below W.heap.size W w5 := bel_tr hb hsz hb5
      have hb8 : Below W.heap.size W w8 := (bel_alloc hb7 hb7.size _).grown hg8 (by have := hb7.size; simp; omega) (fun j hj => by have := (hown.lt j hj).1; omega)
      go_roundw
      case rel => exact ⟨k + 1, by omega, by go_num, hb8, by rw [HT.out, gs_append]; exact hown8⟩
      case measure => simp [intOf]; omega
    · obtain rfl : k = l.length := by omega
      rw [List.take_length] at hown
      go_wp2
      go_ret
      exact ⟨⟨_, _, _, rfl, hbel.size, hown⟩, bel_tr hbel hbel.size hb⟩

theorem own_ne {w : World} {b1 b2 : Nat} {e1 e2 : TypeId} {s1 s2 n1 n2 : Nat} {v1 v2 : Value} {x1 x2 : List Value} (h1 : w.ownsRow b1 e1 s1 v1 n1 x1) (h2 : w.ownsRow b2 e2 s2 v2 n2 x2) (hne : e1 ≠ e2) : v1.ownBlock = none ∨ v1.ownBlock ≠ v2.ownBlock := by
  rcases h1.2 with ⟨rfl, _⟩ | ⟨g, cap, cur, rfl, _, hg, _⟩
  · exact .inl rfl
  · rcases h2.2 with ⟨rfl, _⟩ | ⟨g', cap', cur', rfl, _, hg', _⟩
    · exact .inr (by simp [Value.ownBlock])
    · refine .inr ?_
      simp only [Value.ownBlock]
      intro e
      have e' : g = g' := by simpa using e
      subst e'
      rw [hg] at hg'
      injection hg' with hg'
      injection hg' with _ h3
      exact hne h3
theorem own_one (w : World) (e : TypeId) (a b : Value) (base : Nat) (hb : base ≤ w.heap.size) : (w.alloc (.cells #[a, b] e)).ownsRow base e 2 (.slice (some ⟨w.heap.size, 0, none⟩) 1 1) 1 [a, b] :=
  ⟨by simp, .inr ⟨w.heap.size, 1, #[a, b], rfl, hb, heap_alloc_new w _, Nat.le_refl _, by unfold maxLen; omega, by simp, by simp⟩⟩
theorem Try.infoRg : (Try.prog.info? 55).map (fun i => (i.zero, i.size, i.bytes)) = some (some (.agg #[.int .i64 0, .int .i64 0]), 2, 16) := by kernel_rfl
/-- The legs of the first slabs. -/
def legP (H f n d : Int) (l : List G) (k : Nat) : List G := legQ f n d H 0 :: (l.take k).map fun g => legQ f n d g.1 g.2
theorem legP_all (H f n d : Int) (l : List G) : legP H f n d l (pasN f n d l) = legsL H f n d l := rfl
theorem legP_zero (H f n d : Int) (l : List G) : legP H f n d l 0 = [legQ f n d H 0] := rfl
theorem legP_succ {H f n d : Int} {l : List G} {k : Nat} (hk : k < l.length) : legP H f n d l (k + 1) = legP H f n d l k ++ [legQ f n d l[k].1 l[k].2] := by
  unfold legP
  rw [List.take_succ_eq_append_getElem hk, List.map_append]
  rfl
theorem legP_len {H f n d : Int} {l : List G} {k : Nat} (hk : k ≤ l.length) : (legP H f n d l k).length = k + 1 := by simp [legP]; omega
set_option maxHeartbeats 8000000 in
theorem refLegs_c (H f n d : Int) (A : Option Addr) (c : Nat) (l : List G) (w : World) (hr : Rd w A (gs l)) (ho : OkR H f n d l) :
    Calls Try.prog 39 #[.agg #[.int .i64 H, .slice A l.length c], .int .i64 f, .agg #[.int .i64 n, .int .i64 d]] w fun r w' => (∃ A' c', r = .returned (.slice A' (legsL H f n d l).length c') ∧ Rd w' A' (gs (legsL H f n d l)) ∧ (legsL H f n d l).length ≤ c') ∧ Below w.heap.size w w' := by
  obtain ⟨i0, hi, iz0, iz1, iz2⟩ := info_parts Try.infoRg
  have HIX := hide (fun W (h : Rd W A (gs l)) => refIndexes_own H f A c l W h (by have := ho.l1; omega) ho.ok ho.f0 ho.f1)
  have HAP := hide (fun W (h : Rd W A (gs l)) => refApex_c H f n d A c l W h ho)
  have hfree := hit_free (n := n) (d := d) ho.f0 ho.f1 ho.n1 H
  have lb0 := leg_bd (t := H) (sq := 0) ho.f0 ho.f1 (by omega) (by omega) ho.n0 ho.n1 ho.d1 (by have := ho.hH0; omega) ho.hH1 hfree
  have HL0 : Hid (∀ W, Calls Try.prog 111 #[.int .i64 H, .agg #[.int .i64 1, .int .i64 1], .agg #[.int .i64 n, .int .i64 d]] W fun r w' => r = .returned (.agg #[.int .i64 (legQ f n d H 0).1, .int .i64 (legQ f n d H 0).2]) ∧ Below W.heap.size W w') := by
    intro W
    have h := refLeg_c (idxQ 0 f).1 (idxQ 0 f).2 n d H W lb0.1 lb0.2.1 (by have := ho.hH0; omega) ho.hH1 lb0.2.2.2.2.2.2.1 lb0.2.2.2.2.2.2.2.1 lb0.2.2.2.2.2.2.2.2
    rw [idxQ_free ho.f0] at h
    unfold legQ
    rw [idxQ_free ho.f0]
    exact h
  have HLK : Hid (∀ k (hk : k < l.length) W, k < pasN f n d l → Calls Try.prog 111 #[.int .i64 l[k].1, .agg #[.int .i64 (idxQ l[k].2 f).1, .int .i64 (idxQ l[k].2 f).2], .agg #[.int .i64 n, .int .i64 d]] W fun r w' => r = .returned (.agg #[.int .i64 (legQ f n d l[k].1 l[k].2).1, .int .i64 (legQ f n d l[k].1 l[k].2).2]) ∧ Below W.heap.size W w') := by
    intro k hk W hp
    have o := ho.ok _ (List.getElem_mem hk)
    have lb := leg_bd (t := l[k].1) (sq := l[k].2) ho.f0 ho.f1 o.2.2.1 o.2.2.2 ho.n0 ho.n1 ho.d1 (by omega) o.2.1 (pas_not hp hk)
    exact refLeg_c (idxQ l[k].2 f).1 (idxQ l[k].2 f).2 n d l[k].1 W lb.1 lb.2.1 (by omega) o.2.1 lb.2.2.2.2.2.2.1 lb.2.2.2.2.2.2.2.1 lb.2.2.2.2.2.2.2.2
  have hPl := pasN_le f n d l
  have HPA := hide (legP_all H f n d l)
  have HPZ := hide (legP_zero H f n d l)
  have HIA : Hid (∀ k (h : k < l.length) (h' : k < (idxL f l).length), (idxL f l)[k] = idxQ l[k].2 f) := fun k h h' => by simp [idxL]
  have hIL : (idxL f l).length = l.length := by simp [idxL]
  have HIL := hide hIL
  have hll := ho.l1
  clear lb0 hfree ho hIL
  generalize pasN f n d l = P at HAP HLK hPl HPA
  obtain ⟨q, hq⟩ : ∃ q, w.heap.size = q := ⟨_, rfl⟩
  obtain ⟨q1, hq1⟩ : ∃ q1, q + 1 = q1 := ⟨_, rfl⟩
  obtain ⟨Wa, hWa⟩ : ∃ Wa, w.alloc (.cells #[.int .i64 H, .slice A l.length c] 24) = Wa := ⟨_, rfl⟩
  have ba : Below w.heap.size w Wa := by rw [← hWa]; exact alloc_bel _ _
  have sa : Wa.heap.size = q1 := by rw [← hWa, ← hq1, ← hq]; simp
  have ka : Blk Wa q 24 [.int .i64 H, .slice A l.length c] := by rw [← hWa, ← hq]; exact Blk.new w _ [_, _]
  obtain ⟨w0, hWb⟩ : ∃ w0, Wa.alloc (.cells #[.int .i64 n, .int .i64 d] 26) = w0 := ⟨_, rfl⟩
  have bb : Below Wa.heap.size Wa w0 := by rw [← hWb]; exact alloc_bel _ _
  have kL0 : Blk w0 q1 26 [.int .i64 n, .int .i64 d] := by rw [← hWb, ← sa]; exact Blk.new Wa _ [_, _]
  have hAB : (w.alloc (.cells #[.int .i64 H, .slice A l.length c] 24)).alloc (.cells #[.int .i64 n, .int .i64 d] 26) = w0 := by rw [hWa, hWb]
  have HW := hide hAB
  have kS0 := ka.bel bb
  have hr0 := (hr.bel ba).bel bb
  have hB0 : Below q w w0 := by
    rw [hq] at ba
    exact ba.trans (bb.mono (by omega))
  have z0 : q ≤ w0.heap.size := by have := kS0.lt; omega
  have y0 := kS0.lt
  have x0 := kL0.lt
  clear hAB hWa hWb ba bb ka sa
  have s0 := kS0.cell 0; have s1 := kS0.cell 1; simp only [List.getElem?_cons_zero, List.getElem?_cons_succ] at s0 s1
  have t0 := kL0.cell 0; have t1 := kL0.cell 1; simp only [List.getElem?_cons_zero, List.getElem?_cons_succ] at t0 t1
  go_enter Try.func39, Try.ntmps39
  go_upto_region 1 with fail
  try simp only [World.size_alloc, hq, hq1]
  rw [HW.out]
  have hSd : (∀ b o, b < w0.heap.size → w0.drew.cell? ⟨b, o, none⟩ = w0.cell? ⟨b, o, none⟩) ∧ Below w0.heap.size w0 w0.drew := kp (Below.refl _ _).drew
  refine wp_region_held (S := fun w' => (∀ b o, b < w0.heap.size → w'.cell? ⟨b, o, none⟩ = w0.cell? ⟨b, o, none⟩) ∧ Below w0.heap.size w0 w') (by kernel_rfl) ?_
  change wpAnyH _ _ _ _ _ _ _ _ w0.drew
  refine wpAnyH_take (i := 0) (v := ?_) rfl (by kernel_rfl) (by kernel_rfl) (by kernel_rfl) (fun _ _ _ h => h) (Or.inl ⟨by kernel_rfl, ?_⟩) (by assumption) ?_
  rotate_left 1
  · (intro w hSw; obtain ⟨hk1, hk2⟩ := hSw; go_simp <;> with_reducible rfl)
  simp only [Act.put, List.getElem_toArray, List.getElem_cons_zero, List.setIfInBounds_toArray, List.set_cons_zero, List.set_cons_succ]
  refine wpAnyH_take (i := 1) (v := ?_) rfl (by kernel_rfl) (by kernel_rfl) (by kernel_rfl) (fun _ _ _ h => h) (Or.inl ⟨by kernel_rfl, ?_⟩) (by assumption) ?_
  rotate_left 1
  · (intro w hSw; obtain ⟨hk1, hk2⟩ := hSw; go_simp <;> with_reducible rfl)
  simp only [Act.put, List.getElem_toArray, List.getElem_cons_zero, List.getElem_cons_succ, List.setIfInBounds_toArray, List.set_cons_zero, List.set_cons_succ]
  refine wpAnyH_take (i := 3) (v := ?_) rfl (by kernel_rfl) (by kernel_rfl) (by kernel_rfl) (fun _ _ _ h => h) (Or.inl ⟨by kernel_rfl, ?_⟩) (by assumption) ?_
  rotate_left 1
  · (intro w hSw; obtain ⟨hk1, hk2⟩ := hSw; go_simp <;> with_reducible rfl)
  simp only [Act.put, List.getElem_toArray, List.getElem_cons_zero, List.getElem_cons_succ, List.setIfInBounds_toArray, List.set_cons_zero, List.set_cons_succ]
  refine nextH (i := 2) (by kernel_rfl) rfl (fun K hK => ?_)
  go_simp
  refine (whole_c _ _).mono ?_
  rintro e_ wa ⟨rfl, hba⟩
  have hS' := kp (bel_tr hSd.2 hSd.2.size hba)
  try dsimp only
  refine hK _ _ hS' ?_
  clear hK K hSd
  have hSd := hS'
  clear hS'
  refine nextH (i := 4) (by kernel_rfl) rfl (fun K hK => ?_)
  go_simp
  refine (HL0.out _).mono ?_
  rintro e_ w1 ⟨rfl, hb1⟩
  have hS' := kp (bel_tr hSd.2 hSd.2.size hb1)
  try dsimp only
  refine hK _ _ hS' ?_
  clear hK K hSd
  have hSd := hS'
  clear hS'
  refine nextH (i := 5) (by kernel_rfl) rfl (fun K hK => ?_)
  go_simp
  have hS5 := kp (bel_alloc hSd.2 hSd.2.size (.cells #[.int .i64 (legQ f n d H 0).1, .int .i64 (legQ f n d H 0).2] 55))
  have hown := own_one w1 55 (.int .i64 (legQ f n d H 0).1) (.int .i64 (legQ f n d H 0).2) w0.heap.size hSd.2.size
  obtain ⟨w2, hw2⟩ : ∃ w2, w1.alloc (.cells #[.int .i64 (legQ f n d H 0).1, .int .i64 (legQ f n d H 0).2] 55) = w2 := ⟨_, rfl⟩
  obtain ⟨g, hg⟩ : ∃ g, w1.heap.size = g := ⟨_, rfl⟩
  rw [hw2] at hown hS5 ⊢
  rw [hg] at hown
  try simp only [hg]
  refine hK _ _ hS5 ?_
  clear hK K hSd hba hb1
  refine nextH (i := 6) (by kernel_rfl) rfl (fun K hK => ?_)
  go_simp
  refine hK _ _ hS5 ?_
  clear hK K
  refine wpAnyH_done (by kernel_rfl) ?_ _
  have kS2 := kS0.bel hS5.2
  have kL2 := kL0.bel hS5.2
  have hr2 := hr0.bel hS5.2
  have hB2 : Below q w w2 := hB0.trans (hS5.2.mono z0)
  have hz2 : w0.heap.size ≤ w2.heap.size := hS5.2.size
  clear s0 s1 t0 t1 hw2 hg hS5 kS0 kL0 hr0
  have y2 := kS2.lt
  have x2 := kL2.lt
  have s0 := kS2.cell 0; have s1 := kS2.cell 1; simp only [List.getElem?_cons_zero, List.getElem?_cons_succ] at s0 s1
  have t0 := kL2.cell 0; have t1 := kL2.cell 1; simp only [List.getElem?_cons_zero, List.getElem?_cons_succ] at t0 t1
  go_upto_region 3 with (go_at_call 26; refine (HIX.out _ hr2).mono ?_; rintro e_ w3 ⟨⟨A3, c3, b3, rfl, hb3z, hix⟩, hb3⟩)
  have kS3 := kS2.bel hb3
  have kL3 := kL2.bel hb3
  have hr3 := hr2.bel hb3
  have hown3 := ownsRow_bel hown hb3
  have hB3 : Below q w w3 := hB2.trans (hb3.mono (by omega))
  have hz3 : w0.heap.size ≤ w3.heap.size := by have := hb3.size; omega
  clear s0 s1 t0 t1 kS2 kL2 hr2 hown hB2 hb3 y2 x2
  go_wp2
  go_loopw [7, 9] (fun v i wr => ∃ k : Nat, k ≤ P ∧ i = .int .i64 k ∧ Below q w wr ∧ Blk wr q 24 [.int .i64 H, .slice A l.length c] ∧ Blk wr q1 26 [.int .i64 n, .int .i64 d] ∧ w0.heap.size ≤ wr.heap.size ∧ wr.ownsRow b3 26 2 (.slice A3 l.length c3) l.length (gs (idxL f l)) ∧ wr.ownsRow w0.heap.size 55 2 v (k + 1) (gs (legP H f n d l k))) (fun _ i _ => P - (intOf i).toNat)
  case atStart => exact ⟨0, Nat.zero_le _, rfl, hB3, kS3, kL3, hz3, hix, by rw [HPZ.out]; exact hown3⟩
  case round =>
    clear kS3 kL3 hr3 hown3 hix hB3 hz3 hz2
    obtain ⟨k, hk, rfl, hBr, kSr, kLr, hzr, hix, hown⟩ := hrel
    have hrr : Rd wr A (gs l) := hr.below hBr (by omega)
    have yr := kSr.lt
    have xr := kLr.lt
    obtain ⟨A5, c5, rfl⟩ := ownsRow_slice hown
    have s0 := kSr.cell 0; have s1 := kSr.cell 1; simp only [List.getElem?_cons_zero, List.getElem?_cons_succ] at s0 s1
    have t0 := kLr.cell 0; have t1 := kLr.cell 1; simp only [List.getElem?_cons_zero, List.getElem?_cons_succ] at t0 t1
    by_cases hlt : k < P
    · go_upto_region 6 with (go_at_call 35; refine (HAP.out _ hrr).mono ?_; rintro e_ w5 ⟨rfl, hb5⟩)
      have kS5 := kSr.bel hb5
      have kL5 := kLr.bel hb5
      have hr5 := hrr.bel hb5
      have hix5 := ownsRow_bel hix hb5
      have hown5 := ownsRow_bel hown hb5
      have hB5 : Below q w w5 := hBr.trans (hb5.mono (by omega))
      have hz5 : w0.heap.size ≤ w5.heap.size := by have := hb5.size; omega
      clear s0 s1 t0 t1 kSr kLr hrr hix hown hBr hb5 yr xr hzr
      have hkl : k < l.length := by omega
      obtain ⟨bs, os, rfl, hbs, d0, d1⟩ := hr5.g_at hkl
      obtain ⟨bi, oi, rfl, hbi, e0, e1⟩ := (Rd.of_own hix5).g_at (show k < (idxL f l).length by rw [HIL.out]; exact hkl)
      have HT := hide (legP_succ (H := H) (f := f) (n := n) (d := d) hkl)
      have HLG := hide (fun W => HLK.out k hkl W hlt)
      rw [HIA.out k hkl] at e0 e1
      generalize legQ f n d l[k].1 l[k].2 = z at HT HLG
      generalize idxQ l[k].2 f = x at e0 e1 HLG
      generalize l[k] = sl at d0 d1 HLG
      obtain ⟨z1, z2⟩ := z
      obtain ⟨ia, ib⟩ := x
      obtain ⟨sa, sb⟩ := sl
      dsimp only at d0 d1 e0 e1 HLG
      have y5 := kS5.lt
      have x5 := kL5.lt
      have hlow : bs < q := by
        have h := hr.low
        have h2 := h (by intro h3; have := congrArg List.length h3; simp at this; omega) bs os rfl
        omega
      have s0 := kS5.cell 0; have s1 := kS5.cell 1; simp only [List.getElem?_cons_zero, List.getElem?_cons_succ] at s0 s1
      have t0 := kL5.cell 0; have t1 := kL5.cell 1; simp only [List.getElem?_cons_zero, List.getElem?_cons_succ] at t0 t1
      have HSb : Hid (∀ W, Below w5.heap.size w5 W → (W.cell? ⟨q, 0, none⟩ = some (.int .i64 H) ∧ W.cell? ⟨q, 1, none⟩ = some (.slice (some ⟨bs, os, none⟩) l.length c) ∧ W.cell? ⟨q1, 0, none⟩ = some (.int .i64 n) ∧ W.cell? ⟨q1, 1, none⟩ = some (.int .i64 d) ∧ W.cell? ⟨bi, oi + k * 2, none⟩ = some (.int .i64 ia) ∧ W.cell? ⟨bi, oi + k * 2 + 1, none⟩ = some (.int .i64 ib) ∧ W.cell? ⟨bs, os + k * 2, none⟩ = some (.int .i64 sa) ∧ W.cell? ⟨bs, os + k * 2 + 1, none⟩ = some (.int .i64 sb)) ∧ True) :=
        fun W hb => ⟨⟨((bcell hb).1 _ _ y5).trans s0, ((bcell hb).1 _ _ y5).trans s1, ((bcell hb).1 _ _ x5).trans t0, ((bcell hb).1 _ _ x5).trans t1, ((bcell hb).1 _ _ hbi).trans e0, ((bcell hb).1 _ _ hbi).trans e1, ((bcell hb).1 _ _ hbs).trans d0, ((bcell hb).1 _ _ hbs).trans d1⟩, trivial⟩
      have ik : (k : Int) < (l.length : Int) := by omega
      clear s0 s1 t0 t1 d0 d1 e0 e1
      have hbd : Below w5.heap.size w5 w5.drew := (Below.refl _ _).drew
      have hSd := HSb.out _ hbd
      refine wp_region_held (S := fun W => (W.cell? ⟨q, 0, none⟩ = some (.int .i64 H) ∧ W.cell? ⟨q, 1, none⟩ = some (.slice (some ⟨bs, os, none⟩) l.length c) ∧ W.cell? ⟨q1, 0, none⟩ = some (.int .i64 n) ∧ W.cell? ⟨q1, 1, none⟩ = some (.int .i64 d) ∧ W.cell? ⟨bi, oi + k * 2, none⟩ = some (.int .i64 ia) ∧ W.cell? ⟨bi, oi + k * 2 + 1, none⟩ = some (.int .i64 ib) ∧ W.cell? ⟨bs, os + k * 2, none⟩ = some (.int .i64 sa) ∧ W.cell? ⟨bs, os + k * 2 + 1, none⟩ = some (.int .i64 sb)) ∧ True) (by kernel_rfl) ?_
      change wpAnyH _ _ _ _ _ _ _ _ w5.drew
      refine wpAnyH_take (i := 0) (v := ?_) rfl (by kernel_rfl) (by kernel_rfl) (by kernel_rfl) (fun _ _ _ h => h) (Or.inl ⟨by kernel_rfl, ?_⟩) (by assumption) ?_
      rotate_left 1
      · (intro w hSw; obtain ⟨⟨hk1, hk2, hk3, hk4, hk5, hk6, hk7, hk8⟩, _⟩ := hSw; go_simp <;> with_reducible rfl)
      simp only [Act.put, List.getElem_toArray, List.getElem_cons_zero, List.setIfInBounds_toArray, List.set_cons_zero, List.set_cons_succ]
      refine wpAnyH_take (i := 1) (v := ?_) rfl (by kernel_rfl) (by kernel_rfl) (by kernel_rfl) (fun _ _ _ h => h) (Or.inl ⟨by kernel_rfl, ?_⟩) (by assumption) ?_
      rotate_left 1
      · (intro w hSw; obtain ⟨⟨hk1, hk2, hk3, hk4, hk5, hk6, hk7, hk8⟩, _⟩ := hSw; go_simp <;> with_reducible rfl)
      simp only [Act.put, List.getElem_toArray, List.getElem_cons_zero, List.getElem_cons_succ, List.setIfInBounds_toArray, List.set_cons_zero, List.set_cons_succ]
      refine wpAnyH_take (i := 2) (v := ?_) rfl (by kernel_rfl) (by kernel_rfl) (by kernel_rfl) (fun _ _ _ h => h) (Or.inl ⟨by kernel_rfl, ?_⟩) (by assumption) ?_
      rotate_left 1
      · (intro w hSw; obtain ⟨⟨hk1, hk2, hk3, hk4, hk5, hk6, hk7, hk8⟩, _⟩ := hSw; go_simp <;> with_reducible rfl)
      simp only [Act.put, List.getElem_toArray, List.getElem_cons_zero, List.getElem_cons_succ, List.setIfInBounds_toArray, List.set_cons_zero, List.set_cons_succ]
      refine wpAnyH_take (i := 3) (v := ?_) rfl (by kernel_rfl) (by kernel_rfl) (by kernel_rfl) (fun _ _ _ h => h) (Or.inl ⟨by kernel_rfl, ?_⟩) (by assumption) ?_
      rotate_left 1
      · (intro w hSw; obtain ⟨⟨hk1, hk2, hk3, hk4, hk5, hk6, hk7, hk8⟩, _⟩ := hSw; go_simp <;> with_reducible rfl)
      simp only [Act.put, List.getElem_toArray, List.getElem_cons_zero, List.getElem_cons_succ, List.setIfInBounds_toArray, List.set_cons_zero, List.set_cons_succ]
      refine wpAnyH_take (i := 4) (v := ?_) rfl (by kernel_rfl) (by kernel_rfl) (by kernel_rfl) (fun _ _ _ h => h) (Or.inl ⟨by kernel_rfl, ?_⟩) (by assumption) ?_
      rotate_left 1
      · (intro w hSw; obtain ⟨⟨hk1, hk2, hk3, hk4, hk5, hk6, hk7, hk8⟩, _⟩ := hSw; go_simp <;> with_reducible rfl)
      simp only [Act.put, List.getElem_toArray, List.getElem_cons_zero, List.getElem_cons_succ, List.setIfInBounds_toArray, List.set_cons_zero, List.set_cons_succ]
      refine wpAnyH_take (i := 5) (v := ?_) rfl (by kernel_rfl) (by kernel_rfl) (by kernel_rfl) (fun _ _ _ h => h) (Or.inl ⟨by kernel_rfl, ?_⟩) (by assumption) ?_
      rotate_left 1
      · (intro w hSw; obtain ⟨⟨hk1, hk2, hk3, hk4, hk5, hk6, hk7, hk8⟩, _⟩ := hSw; go_simp <;> with_reducible rfl)
      simp only [Act.put, List.getElem_toArray, List.getElem_cons_zero, List.getElem_cons_succ, List.setIfInBounds_toArray, List.set_cons_zero, List.set_cons_succ]
      refine wpAnyH_take (i := 6) (v := ?_) rfl (by kernel_rfl) (by kernel_rfl) (by kernel_rfl) (fun _ _ _ h => h) (Or.inl ⟨by kernel_rfl, ?_⟩) (by assumption) ?_
      rotate_left 1
      · (intro w hSw; obtain ⟨⟨hk1, hk2, hk3, hk4, hk5, hk6, hk7, hk8⟩, _⟩ := hSw; go_simp <;> with_reducible rfl)
      simp only [Act.put, List.getElem_toArray, List.getElem_cons_zero, List.getElem_cons_succ, List.setIfInBounds_toArray, List.set_cons_zero, List.set_cons_succ]
      refine wpAnyH_take (i := 7) (v := ?_) rfl (by kernel_rfl) (by kernel_rfl) (by kernel_rfl) (fun _ _ _ h => h) (Or.inl ⟨by kernel_rfl, ?_⟩) (by assumption) ?_
      rotate_left 1
      · (intro w hSw; obtain ⟨⟨hk1, hk2, hk3, hk4, hk5, hk6, hk7, hk8⟩, _⟩ := hSw; go_simp <;> with_reducible rfl)
      simp only [Act.put, List.getElem_toArray, List.getElem_cons_zero, List.getElem_cons_succ, List.setIfInBounds_toArray, List.set_cons_zero, List.set_cons_succ]
      refine wpAnyH_take (i := 8) (v := ?_) rfl (by kernel_rfl) (by kernel_rfl) (by kernel_rfl) (fun _ _ _ h => h) (Or.inl ⟨by kernel_rfl, ?_⟩) (by assumption) ?_
      rotate_left 1
      · (intro w hSw; obtain ⟨⟨hk1, hk2, hk3, hk4, hk5, hk6, hk7, hk8⟩, _⟩ := hSw; go_simp <;> with_reducible rfl)
      simp only [Act.put, List.getElem_toArray, List.getElem_cons_zero, List.getElem_cons_succ, List.setIfInBounds_toArray, List.set_cons_zero, List.set_cons_succ]
      refine wpAnyH_take (i := 9) (v := ?_) rfl (by kernel_rfl) (by kernel_rfl) (by kernel_rfl) (fun _ _ _ h => h) (Or.inl ⟨by kernel_rfl, ?_⟩) (by assumption) ?_
      rotate_left 1
      · (intro w hSw; obtain ⟨⟨hk1, hk2, hk3, hk4, hk5, hk6, hk7, hk8⟩, _⟩ := hSw; go_simp <;> with_reducible rfl)
      simp only [Act.put, List.getElem_toArray, List.getElem_cons_zero, List.getElem_cons_succ, List.setIfInBounds_toArray, List.set_cons_zero, List.set_cons_succ]
      refine wpAnyH_take (i := 10) (v := ?_) rfl (by kernel_rfl) (by kernel_rfl) (by kernel_rfl) (fun _ _ _ h => h) (Or.inl ⟨by kernel_rfl, ?_⟩) (by assumption) ?_
      rotate_left 1
      · (intro w hSw; obtain ⟨⟨hk1, hk2, hk3, hk4, hk5, hk6, hk7, hk8⟩, _⟩ := hSw; go_simp <;> with_reducible rfl)
      simp only [Act.put, List.getElem_toArray, List.getElem_cons_zero, List.getElem_cons_succ, List.setIfInBounds_toArray, List.set_cons_zero, List.set_cons_succ]
      refine wpAnyH_take (i := 11) (v := ?_) rfl (by kernel_rfl) (by kernel_rfl) (by kernel_rfl) (fun _ _ _ h => h) (Or.inl ⟨by kernel_rfl, ?_⟩) (by assumption) ?_
      rotate_left 1
      · (intro w hSw; obtain ⟨⟨hk1, hk2, hk3, hk4, hk5, hk6, hk7, hk8⟩, _⟩ := hSw; go_simp <;> with_reducible rfl)
      simp only [Act.put, List.getElem_toArray, List.getElem_cons_zero, List.getElem_cons_succ, List.setIfInBounds_toArray, List.set_cons_zero, List.set_cons_succ]
      refine nextH (i := 12) (by kernel_rfl) rfl (fun K hK => ?_)
      go_simp
      refine (HLG.out _).mono ?_
      rintro e_ w6 ⟨rfl, hb6⟩
      have hb56 := bel_tr hbd hbd.size hb6
      try dsimp only
      refine hK _ _ (HSb.out _ hb56) ?_
      clear hK K hSd
      refine nextH (i := 13) (by kernel_rfl) rfl (fun K hK => ?_)
      go_simp
      have hb57 := bel_alloc hb56 hb56.size (.cells #[.int .i64 z1, .int .i64 z2] 55)
      have hz1 : Blk (w6.alloc (.cells #[.int .i64 z1, .int .i64 z2] 55)) w6.heap.size 55 (gs [(z1, z2)]) := Blk.new w6 _ _
      obtain ⟨gz, hgz⟩ : ∃ gz, w6.heap.size = gz := ⟨_, rfl⟩
      obtain ⟨w7, hw7⟩ : ∃ w7, w6.alloc (.cells #[.int .i64 z1, .int .i64 z2] 55) = w7 := ⟨_, rfl⟩
      rw [hw7] at hb57 hz1 ⊢
      rw [hgz] at hz1
      try simp only [hgz]
      refine hK _ _ (HSb.out _ hb57) ?_
      clear hK K hw7 hgz hb6 hb56 hbd
      have kS7 := kS5.bel hb57
      have kL7 := kL5.bel hb57
      have hix7 := ownsRow_bel hix5 hb57
      have hown7 := ownsRow_bel hown5 hb57
      have hB7 : Below q w w7 := hB5.trans (hb57.mono (by omega))
      have hz7 : w0.heap.size ≤ w7.heap.size := by have := hb57.size; omega
      have hS7 := HSb.out _ hb57
      have hne := own_ne hix7 hown7 (by decide)
      have hlt7 := hown7.lt
      clear kS5 kL5 hr5 hix5 hown5 hB5 hz5 HSb hb57
      refine nextH (i := 14) (by kernel_rfl) rfl (fun K hK => ?_)
      refine step_append_rd _ (by rfl) _ _ _ (by rfl) w0.heap.size 55 i0 _ 2 16 Try.underlying51 hi iz0 iz1 iz2 rfl (by decide) (.slice A5 (k + 1) c5) (k + 1) (gs (legP H f n d l k)) (by rfl) hown7 (some ⟨gz, 0, none⟩) 1 1 (gs [(z1, z2)]) (by rfl) (by simp) (hz1.rd (List.prefix_refl _)) (gs_one _) (by unfold maxLen; omega) (by omega) hz7 ?_
      intro v8 W8 hown8 hg8
      have hS8 : (W8.cell? ⟨q, 0, none⟩ = some (.int .i64 H) ∧ W8.cell? ⟨q, 1, none⟩ = some (.slice (some ⟨bs, os, none⟩) l.length c) ∧ W8.cell? ⟨q1, 0, none⟩ = some (.int .i64 n) ∧ W8.cell? ⟨q1, 1, none⟩ = some (.int .i64 d) ∧ W8.cell? ⟨bi, oi + k * 2, none⟩ = some (.int .i64 ia) ∧ W8.cell? ⟨bi, oi + k * 2 + 1, none⟩ = some (.int .i64 ib) ∧ W8.cell? ⟨bs, os + k * 2, none⟩ = some (.int .i64 sa) ∧ W8.cell? ⟨bs, os + k * 2 + 1, none⟩ = some (.int .i64 sb)) ∧ True := by
        obtain ⟨⟨a1, a2, a3, a4, a5, a6, a7, a8⟩, _⟩ := hS7
        have n1 : ∀ b : Nat, b < w0.heap.size → some b ≠ (Value.slice A5 (k + 1) c5).ownBlock := fun b hb he => by have := (hlt7 b he.symm).1; omega
        have n2 : some bi ≠ (Value.slice A5 (k + 1) c5).ownBlock := by
          rcases hne with h | h
          · simp [Value.ownBlock] at h
          · simpa [Value.ownBlock] using h
        exact ⟨⟨hg8.cell a1 (n1 q (by omega)), hg8.cell a2 (n1 q (by omega)), hg8.cell a3 (n1 q1 (by omega)), hg8.cell a4 (n1 q1 (by omega)), hg8.cell a5 n2, hg8.cell a6 n2, hg8.cell a7 (n1 bs (by omega)), hg8.cell a8 (n1 bs (by omega))⟩, trivial⟩
      have hB8 : Below q w W8 := hB7.grown hg8 (by omega) (fun j hj => by have := (hlt7 j hj).1; omega)
      have kS8 : Blk W8 q 24 [.int .i64 H, .slice (some ⟨bs, os, none⟩) l.length c] := (hg8.block q kS7.lt (fun he => by have := (hlt7 q he.symm).1; omega)).trans kS7
      have kL8 : Blk W8 q1 26 [.int .i64 n, .int .i64 d] := (hg8.block q1 kL7.lt (fun he => by have := (hlt7 q1 he.symm).1; omega)).trans kL7
      have hix8 := hix7.kept hg8 hne
      have hz8 : w0.heap.size ≤ W8.heap.size := by have := hg8.size; omega
      simp only [Act.put, List.getElem_toArray, List.getElem_cons_zero, List.getElem_cons_succ, List.setIfInBounds_toArray, List.set_cons_zero, List.set_cons_succ]
      refine hK _ _ hS8 ?_
      clear hK K kS7 kL7 hix7 hown7 hB7 hz7 hne hlt7 hg8 hS7
      refine nextH (i := 15) (by kernel_rfl) rfl (fun K hK => ?_)
      go_simp
      refine hK _ _ hS8 ?_
      clear hK K
      refine wpAnyH_done (by kernel_rfl) ?_ _
      go_wp2
      go_roundw
      case rel => exact ⟨k + 1, by omega, by go_num, hB8, kS8, kL8, hz8, hix8, by rw [HT.out, gs_append]; exact hown8⟩
      case measure => simp [intOf]; omega
    · obtain rfl : k = P := by omega
      go_wp2_with (go_at_call 35; refine (HAP.out _ hrr).mono ?_; rintro e_ w5 ⟨rfl, hb5⟩; have hown5 := ownsRow_bel hown hb5; have hBz : Below q w w5 := hBr.trans (hb5.mono (by omega)))
      go_ret
      rw [← HPA.out, legP_len hPl]
      exact ⟨⟨_, _, rfl, Rd.of_own hown5, own_capI hown5⟩, by first | exact hBz | (rw [hq]; exact hBz)⟩
end Go.Proofs.Ytkcjiejdjdcbeaa

/- Contracts: the reference's ground distance, launches of a grid. -/
set_option linter.unusedSimpArgs false
set_option linter.unusedVariables false
namespace Go.Proofs.Ytkcjiejdjdcbeaa
open Go.RowKit
set_option maxRecDepth 100000

theorem sumQ_take {L : List G} {k : Nat} (hk : k < L.length) : sumQ (L.take (k + 1)) = ((sumQ (L.take k)).1 + L[k].1, (sumQ (L.take k)).2 + L[k].2) := by
  rw [List.take_succ_eq_append_getElem hk, sumQ_snoc]
set_option maxHeartbeats 4000000 in
theorem refSum_c (L : List G) (A : Option Addr) (c : Nat) (w : World) (hr : Rd w A (gs L)) (hl : L.length ≤ 1000) (hok : ∀ x ∈ L, LegOk x) :
    Calls Try.prog 112 #[.slice A L.length c] w fun r w' => r = .returned (.agg #[.int .i64 (sumQ L).1, .int .i64 (sumQ L).2]) ∧ Below w.heap.size w w' := by
  obtain ⟨q, hq⟩ : ∃ q, w.heap.size = q := ⟨_, rfl⟩
  obtain ⟨q1, hq1⟩ : ∃ q1, q + 1 = q1 := ⟨_, rfl⟩
  obtain ⟨Wa, hWa⟩ : ∃ Wa, w.alloc (.cells #[.int .i64 0, .int .i64 0] 55) = Wa := ⟨_, rfl⟩
  have ba : Below w.heap.size w Wa := by rw [← hWa]; exact alloc_bel _ _
  have sa : Wa.heap.size = q1 := by rw [← hWa, ← hq1, ← hq]; simp
  have ka : Blk Wa q 55 [.int .i64 0, .int .i64 0] := by rw [← hWa, ← hq]; exact Blk.new w _ [_, _]
  obtain ⟨w0, hWb⟩ : ∃ w0, Wa.alloc (.cells #[.int .i64 0, .int .i64 0] 55) = w0 := ⟨_, rfl⟩
  have bb : Below Wa.heap.size Wa w0 := by rw [← hWb]; exact alloc_bel _ _
  have k1 : Blk w0 q1 55 [.int .i64 0, .int .i64 0] := by rw [← hWb, ← sa]; exact Blk.new Wa _ [_, _]
  have hAB : (w.alloc (.cells #[.int .i64 0, .int .i64 0] 55)).alloc (.cells #[.int .i64 0, .int .i64 0] 55) = w0 := by rw [hWa, hWb]
  have HW := hide hAB
  have k0 := ka.bel bb
  have hB0 : Below q w w0 := by
    rw [hq] at ba
    exact ba.trans (bb.mono (by omega))
  clear hAB hWa hWb ba bb ka sa
  go_enter Try.func112, Try.ntmps112
  go_upto_region 2 with fail
  try simp only [World.size_alloc, hq, hq1]
  rw [HW.out]
  go_wp2
  go_loopw [4] (fun i wr => ∃ k : Nat, k ≤ L.length ∧ i = .int .i64 k ∧ Below q w wr ∧ Blk wr q 55 [.int .i64 0, .int .i64 0] ∧ Blk wr q1 55 [.int .i64 (sumQ (L.take k)).1, .int .i64 (sumQ (L.take k)).2]) (fun i _ => L.length - (intOf i).toNat)
  case atStart => exact ⟨0, Nat.zero_le _, rfl, hB0, k0, k1⟩
  case round =>
    clear k0 k1 hB0
    obtain ⟨k, hk, rfl, hB, kR, kO⟩ := hrel
    have hrr := hr.below (w' := wr) hB (by omega)
    have yO := kO.lt
    by_cases hlt : k < L.length
    · obtain ⟨b, off, rfl, hblt, e0, e1⟩ := hrr.g_at hlt
      have HT := hide (sumQ_take hlt)
      have hx := hok _ (List.getElem_mem hlt)
      have hsb := sumQ_bd k (L.take k) (by rw [List.length_take]; omega) (fun y hy => hok y (List.mem_of_mem_take hy))
      generalize L[k] = x at e0 e1 HT hx
      generalize sumQ (L.take k) = s at kO HT hsb
      obtain ⟨x1, x2⟩ := x
      obtain ⟨s1, s2⟩ := s
      unfold LegOk at hx
      dsimp only at e0 e1 HT hx kO hsb
      have hbq : b < q1 := by
        have h := hr.low (by intro h3; have := congrArg List.length h3; simp at this; omega) b off rfl
        omega
      obtain ⟨o0, o1, f0, f1⟩ := blk_two kO
      have ik : (k : Int) < (L.length : Int) := by omega
      have hb1 : 0 ≤ s1 + x1 ∧ s1 + x1 ≤ 3000000000000 ∧ 0 ≤ s2 + x2 ∧ s2 + x2 ≤ 3000000000000 := by omega
      have wr1 : IntKind.i64.wrap (s1 + x1) = s1 + x1 := by simp (disch := omega) only [IntWalk.i64_in]
      have wr2 : IntKind.i64.wrap (s2 + x2) = s2 + x2 := by simp (disch := omega) only [IntWalk.i64_in]
      clear hsb
      go_upto_region 5 with fail
      have hSd : (wr.drew.cell? ⟨q1, 0, none⟩ = some (.int .i64 s1) ∧ wr.drew.cell? ⟨q1, 1, none⟩ = some (.int .i64 s2)) ∧ (wr.drew.cell? ⟨b, off + k * 2, none⟩ = some (.int .i64 x1) ∧ wr.drew.cell? ⟨b, off + k * 2 + 1, none⟩ = some (.int .i64 x2)) := ⟨⟨o0, o1⟩, e0, e1⟩
      refine wp_region_M (fun w' => (w'.cell? ⟨q1, 0, none⟩ = some (.int .i64 s1) ∧ w'.cell? ⟨q1, 1, none⟩ = some (.int .i64 s2)) ∧ (w'.cell? ⟨b, off + k * 2, none⟩ = some (.int .i64 x1) ∧ w'.cell? ⟨b, off + k * 2 + 1, none⟩ = some (.int .i64 x2))) 17 (by kernel_rfl) ?_
      refine AnyM.take (i := 0) (v := ?_) rfl (by kernel_rfl) (by kernel_rfl) (by kernel_rfl) (by kernel_rfl) (fun _ _ _ h => h) (Or.inl ⟨by rfl, ?_⟩) (by assumption) ?_
      rotate_left 1
      · (intro w hSw; obtain ⟨hk1, hk2⟩ := hSw; go_simp <;> with_reducible rfl)
      simp only [Act.put, List.getElem_toArray, List.getElem_cons_zero, List.setIfInBounds_toArray, List.set_cons_zero, List.set_cons_succ]
      refine AnyM.take (i := 1) (v := ?_) rfl (by kernel_rfl) (by kernel_rfl) (by kernel_rfl) (by kernel_rfl) (fun _ _ _ h => h) (Or.inl ⟨by rfl, ?_⟩) (by assumption) ?_
      rotate_left 1
      · (intro w hSw; obtain ⟨hk1, hk2⟩ := hSw; go_simp <;> with_reducible rfl)
      simp only [Act.put, List.getElem_toArray, List.getElem_cons_zero, List.getElem_cons_succ, List.setIfInBounds_toArray, List.set_cons_zero, List.set_cons_succ]
      refine AnyM.take (i := 2) (v := ?_) rfl (by kernel_rfl) (by kernel_rfl) (by kernel_rfl) (by kernel_rfl) (fun _ _ _ h => h) (Or.inl ⟨by rfl, ?_⟩) (by assumption) ?_
      rotate_left 1
      · (intro w hSw; obtain ⟨hk1, hk2⟩ := hSw; go_simp <;> with_reducible rfl)
      simp only [Act.put, List.getElem_toArray, List.getElem_cons_zero, List.getElem_cons_succ, List.setIfInBounds_toArray, List.set_cons_zero, List.set_cons_succ]
      refine AnyM.take (i := 3) (v := ?_) rfl (by kernel_rfl) (by kernel_rfl) (by kernel_rfl) (by kernel_rfl) (fun _ _ _ h => h) (Or.inl ⟨by rfl, ?_⟩) (by assumption) ?_
      rotate_left 1
      · (intro w hSw; obtain ⟨hk1, hk2⟩ := hSw; go_simp <;> with_reducible rfl)
      simp only [Act.put, List.getElem_toArray, List.getElem_cons_zero, List.getElem_cons_succ, List.setIfInBounds_toArray, List.set_cons_zero, List.set_cons_succ]
      refine AnyM.take (i := 4) (v := ?_) rfl (by kernel_rfl) (by kernel_rfl) (by kernel_rfl) (by kernel_rfl) (fun _ _ _ h => h) (Or.inl ⟨by rfl, ?_⟩) (by assumption) ?_
      rotate_left 1
      · (intro w hSw; obtain ⟨hk1, hk2⟩ := hSw; go_simp <;> with_reducible rfl)
      simp only [Act.put, List.getElem_toArray, List.getElem_cons_zero, List.getElem_cons_succ, List.setIfInBounds_toArray, List.set_cons_zero, List.set_cons_succ]
      refine AnyM.take (i := 5) (v := ?_) rfl (by kernel_rfl) (by kernel_rfl) (by kernel_rfl) (by kernel_rfl) (fun _ _ _ h => h) (Or.inl ⟨by rfl, ?_⟩) (by assumption) ?_
      rotate_left 1
      · (intro w hSw; obtain ⟨hk1, hk2⟩ := hSw; go_simp <;> with_reducible rfl)
      simp only [Act.put, List.getElem_toArray, List.getElem_cons_zero, List.getElem_cons_succ, List.setIfInBounds_toArray, List.set_cons_zero, List.set_cons_succ]
      refine AnyM.take (i := 6) (v := ?_) rfl (by kernel_rfl) (by kernel_rfl) (by kernel_rfl) (by kernel_rfl) (fun _ _ _ h => h) (Or.inl ⟨by rfl, ?_⟩) (by assumption) ?_
      rotate_left 1
      · (intro w hSw; obtain ⟨hk1, hk2⟩ := hSw; go_simp <;> with_reducible rfl)
      simp only [Act.put, List.getElem_toArray, List.getElem_cons_zero, List.getElem_cons_succ, List.setIfInBounds_toArray, List.set_cons_zero, List.set_cons_succ]
      refine AnyM.take (i := 7) (v := ?_) rfl (by kernel_rfl) (by kernel_rfl) (by kernel_rfl) (by kernel_rfl) (fun _ _ _ h => h) (Or.inl ⟨by rfl, ?_⟩) (by assumption) ?_
      rotate_left 1
      · (intro w hSw; obtain ⟨hk1, hk2⟩ := hSw; go_simp <;> with_reducible rfl)
      simp only [Act.put, List.getElem_toArray, List.getElem_cons_zero, List.getElem_cons_succ, List.setIfInBounds_toArray, List.set_cons_zero, List.set_cons_succ]
      refine AnyM.take (i := 8) (v := ?_) rfl (by kernel_rfl) (by kernel_rfl) (by kernel_rfl) (by kernel_rfl) (fun _ _ _ h => h) (Or.inl ⟨by rfl, ?_⟩) (by assumption) ?_
      rotate_left 1
      · (intro w hSw; obtain ⟨hk1, hk2⟩ := hSw; go_simp <;> with_reducible rfl)
      simp only [Act.put, List.getElem_toArray, List.getElem_cons_zero, List.getElem_cons_succ, List.setIfInBounds_toArray, List.set_cons_zero, List.set_cons_succ]
      refine AnyM.take (i := 9) (v := ?_) rfl (by kernel_rfl) (by kernel_rfl) (by kernel_rfl) (by kernel_rfl) (fun _ _ _ h => h) (Or.inl ⟨by rfl, ?_⟩) (by assumption) ?_
      rotate_left 1
      · (intro w hSw; obtain ⟨hk1, hk2⟩ := hSw; go_simp <;> with_reducible rfl)
      simp only [Act.put, List.getElem_toArray, List.getElem_cons_zero, List.getElem_cons_succ, List.setIfInBounds_toArray, List.set_cons_zero, List.set_cons_succ]
      refine AnyM.take (i := 10) (v := ?_) rfl (by kernel_rfl) (by kernel_rfl) (by kernel_rfl) (by kernel_rfl) (fun _ _ _ h => h) (Or.inl ⟨by rfl, ?_⟩) (by assumption) ?_
      rotate_left 1
      · (intro w hSw; obtain ⟨hk1, hk2⟩ := hSw; go_simp <;> with_reducible rfl)
      simp only [Act.put, List.getElem_toArray, List.getElem_cons_zero, List.getElem_cons_succ, List.setIfInBounds_toArray, List.set_cons_zero, List.set_cons_succ]
      refine AnyM.take (i := 11) (v := ?_) rfl (by kernel_rfl) (by kernel_rfl) (by kernel_rfl) (by kernel_rfl) (fun _ _ _ h => h) (Or.inl ⟨by rfl, ?_⟩) (by assumption) ?_
      rotate_left 1
      · (intro w hSw; obtain ⟨hk1, hk2⟩ := hSw; go_simp <;> with_reducible rfl)
      simp only [Act.put, List.getElem_toArray, List.getElem_cons_zero, List.getElem_cons_succ, List.setIfInBounds_toArray, List.set_cons_zero, List.set_cons_succ]
      refine AnyM.take (i := 12) (v := ?_) rfl (by kernel_rfl) (by kernel_rfl) (by kernel_rfl) (by kernel_rfl) (fun _ _ _ h => h) (Or.inl ⟨by rfl, ?_⟩) (by assumption) ?_
      rotate_left 1
      · (intro w hSw; obtain ⟨hk1, hk2⟩ := hSw; go_simp <;> with_reducible rfl)
      simp only [Act.put, List.getElem_toArray, List.getElem_cons_zero, List.getElem_cons_succ, List.setIfInBounds_toArray, List.set_cons_zero, List.set_cons_succ]
      refine AnyM.take (i := 13) (v := ?_) rfl (by kernel_rfl) (by kernel_rfl) (by kernel_rfl) (by kernel_rfl) (fun _ _ _ h => h) (Or.inl ⟨by rfl, ?_⟩) (by assumption) ?_
      rotate_left 1
      · (intro w hSw; obtain ⟨hk1, hk2⟩ := hSw; go_simp <;> with_reducible rfl)
      simp only [Act.put, List.getElem_toArray, List.getElem_cons_zero, List.getElem_cons_succ, List.setIfInBounds_toArray, List.set_cons_zero, List.set_cons_succ]
      refine AnyM.take (i := 14) (v := ?_) rfl (by kernel_rfl) (by kernel_rfl) (by kernel_rfl) (by kernel_rfl) (fun _ _ _ h => h) (Or.inl ⟨by rfl, ?_⟩) (by assumption) ?_
      rotate_left 1
      · (intro w hSw; obtain ⟨hk1, hk2⟩ := hSw; go_simp <;> with_reducible rfl)
      simp only [Act.put, List.getElem_toArray, List.getElem_cons_zero, List.getElem_cons_succ, List.setIfInBounds_toArray, List.set_cons_zero, List.set_cons_succ]
      refine AnyM.take (i := 15) (v := ?_) rfl (by kernel_rfl) (by kernel_rfl) (by kernel_rfl) (by kernel_rfl) (fun _ _ _ h => h) (Or.inl ⟨by rfl, ?_⟩) (by assumption) ?_
      rotate_left 1
      · (intro w hSw; obtain ⟨hk1, hk2⟩ := hSw; go_simp <;> with_reducible rfl)
      simp only [Act.put, List.getElem_toArray, List.getElem_cons_zero, List.getElem_cons_succ, List.setIfInBounds_toArray, List.set_cons_zero, List.set_cons_succ]
      refine AnyM.take (i := 16) (v := ?_) rfl (by kernel_rfl) (by kernel_rfl) (by kernel_rfl) (by kernel_rfl) (fun _ _ _ h => h) (Or.inl ⟨by rfl, ?_⟩) (by assumption) ?_
      rotate_left 1
      · (intro w hSw; obtain ⟨hk1, hk2⟩ := hSw; go_simp <;> with_reducible rfl)
      simp only [Act.put, List.getElem_toArray, List.getElem_cons_zero, List.getElem_cons_succ, List.setIfInBounds_toArray, List.set_cons_zero, List.set_cons_succ]
      refine AnyM.next [17] (by kernel_rfl) (by simp) ?_
      refine NextM.cons rfl (fun K hK => ?_) NextM.nil
      go_simp
      refine hK _ _ (fun h => by simp at h) ?_
      clear hK K
      refine AnyM.done (by kernel_rfl) ?_ _
      obtain ⟨w9, hw9⟩ : ∃ w9, ((wr.setCell ⟨q1, 0, none⟩ (.int .i64 (s1 + x1))).setCell ⟨q1, 1, none⟩ (.int .i64 (s2 + x2))).drew = w9 := ⟨_, rfl⟩
      have hB9 : Below q w w9 := by rw [← hw9]; exact ((hB.setCell (by show q ≤ q1; omega) _).setCell (by show q ≤ q1; omega) _).drew
      have kO9 : Blk w9 q1 55 [.int .i64 (s1 + x1), .int .i64 (s2 + x2)] := by rw [← hw9]; exact (kO.set_ 0 _).set_ 1 _
      have kR9 : Blk w9 q 55 [.int .i64 0, .int .i64 0] := by rw [← hw9]; exact (kR.far (by show q ≠ q1; omega) _).far (by show q ≠ q1; omega) _
      rw [hw9]
      clear hw9 o0 o1 f0 f1 hSd kO kR hB
      go_wp2
      go_roundw
      case rel => exact ⟨k + 1, by omega, by go_num, hB9, kR9, by rw [HT.out]; exact kO9⟩
      case measure => simp [intOf]; omega
    · obtain rfl : k = L.length := by omega
      rw [List.take_length] at kO
      obtain ⟨s, hs⟩ : ∃ s, sumQ L = s := ⟨_, rfl⟩
      have HZ := hide hs
      rw [hs] at kO
      clear hs
      obtain ⟨s1, s2⟩ := s
      dsimp only at kO
      obtain ⟨o0, o1, _, _⟩ := blk_two kO
      obtain ⟨r0, r1, f0, f1⟩ := blk_two kR
      have yR := kR.lt
      go_wp2
      obtain ⟨WE, hWE⟩ : ∃ WE, (wr.setCell ⟨q, 0, none⟩ (.int .i64 s1)).setCell ⟨q, 1, none⟩ (.int .i64 s2) = WE := ⟨_, rfl⟩
      rw [hWE]
      have hE : Blk WE q 55 [.int .i64 s1, .int .i64 s2] := by rw [← hWE]; exact (kR.set_ 0 _).set_ 1 _
      have hBE : Below q w WE := by rw [← hWE]; exact (hB.setCell (Nat.le_refl _) _).setCell (Nat.le_refl _) _
      clear hWE
      have g0 := hE.cell 0; have g1 := hE.cell 1; simp only [List.getElem?_cons_zero, List.getElem?_cons_succ] at g0 g1
      exact bodyPost_ret (v := .agg #[.int .i64 s1, .int .i64 s2]) (by simp [results, Try.results112, go_sem, g0, g1]; try rfl) rfl ⟨by rw [HZ.out], by first | exact hBE | (rw [hq]; exact hBE)⟩
/-- The ground distance, and whether there is one. -/
def gndV (H f n d : Int) (l : List G) : G × Bool := if pasN f n d l = l.length then ((0, 0), false) else (grdQ H f n d l, true)
set_option maxHeartbeats 4000000 in
theorem refGround_c (H f n d : Int) (A : Option Addr) (c : Nat) (l : List G) (w : World) (hr : Rd w A (gs l)) (ho : OkR H f n d l) :
    Calls Try.prog 40 #[.agg #[.int .i64 H, .slice A l.length c], .int .i64 f, .agg #[.int .i64 n, .int .i64 d]] w fun r w' => r = .returned (.tuple #[.agg #[.int .i64 (gndV H f n d l).1.1, .int .i64 (gndV H f n d l).1.2], .bool (gndV H f n d l).2]) ∧ Below w.heap.size w w' := by
  have HAP := hide (fun W (h : Rd W A (gs l)) => refApex_c H f n d A c l W h ho)
  have HLE := hide (fun W (h : Rd W A (gs l)) => refLegs_c H f n d A c l W h ho)
  have hlo := legs_ok (l := l) ho.ok (by have := ho.hH0; omega) ho.hH1 ho.f0 ho.f1 ho.n0 ho.n1 ho.d1
  have hll := legsL_len H f n d l
  have hpl := pasN_le f n d l
  have hl12 := ho.l1
  have HSU := hide (fun A' c' W (h : Rd W A' (gs (legsL H f n d l))) => refSum_c (legsL H f n d l) A' c' W h (by omega) hlo)
  have hbd := halfQ_bd (l := l) (by omega) ho.ok (by have := ho.hH0; omega) ho.hH1 ho.f0 ho.f1 ho.n0 ho.n1 ho.d1
  have HGQ : Hid (grdQ H f n d l = (2 * (sumQ (legsL H f n d l)).1, 2 * (sumQ (legsL H f n d l)).2)) := rfl
  rw [show halfQ H f n d l = sumQ (legsL H f n d l) from rfl] at hbd
  have HR : Hid (gndV H f n d l = if pasN f n d l = l.length then ((0, 0), false) else (grdQ H f n d l, true)) := rfl
  generalize sumQ (legsL H f n d l) = s at HSU hbd HGQ
  generalize (legsL H f n d l).length = nl at HLE HSU
  obtain ⟨s1, s2⟩ := s
  dsimp only at HSU hbd HGQ
  clear hlo hll ho
  by_cases hp : pasN f n d l = l.length
  · have HR2 : Hid (gndV H f n d l = ((0, 0), false)) := by show _ = _; rw [HR.out, if_pos hp]
    rw [hp] at HAP
    clear HR hp HLE HSU HGQ
    obtain ⟨q, hq⟩ : ∃ q, w.heap.size = q := ⟨_, rfl⟩
    obtain ⟨q1, hq1⟩ : ∃ q1, q + 1 = q1 := ⟨_, rfl⟩
    obtain ⟨q2, hq2⟩ : ∃ q2, q1 + 1 = q2 := ⟨_, rfl⟩
    obtain ⟨Wa, hWa⟩ : ∃ Wa, w.alloc (.cells #[.int .i64 H, .slice A l.length c] 24) = Wa := ⟨_, rfl⟩
    have ba : Below w.heap.size w Wa := by rw [← hWa]; exact alloc_bel _ _
    have sa : Wa.heap.size = q1 := by rw [← hWa, ← hq1, ← hq]; simp
    have ka : Blk Wa q 24 [.int .i64 H, .slice A l.length c] := by rw [← hWa, ← hq]; exact Blk.new w _ [_, _]
    obtain ⟨Wb, hWb⟩ : ∃ Wb, Wa.alloc (.cells #[.int .i64 n, .int .i64 d] 26) = Wb := ⟨_, rfl⟩
    have bb : Below Wa.heap.size Wa Wb := by rw [← hWb]; exact alloc_bel _ _
    have sb : Wb.heap.size = q2 := by rw [← hWb, ← hq2, ← sa]; simp
    have kb : Blk Wb q1 26 [.int .i64 n, .int .i64 d] := by rw [← hWb, ← sa]; exact Blk.new Wa _ [_, _]
    obtain ⟨w0, hWc⟩ : ∃ w0, Wb.alloc (.cells #[.int .i64 0, .int .i64 0] 55) = w0 := ⟨_, rfl⟩
    have bc : Below Wb.heap.size Wb w0 := by rw [← hWc]; exact alloc_bel _ _
    have kR0 : Blk w0 q2 55 [.int .i64 0, .int .i64 0] := by rw [← hWc, ← sb]; exact Blk.new Wb _ [_, _]
    have hABC : ((w.alloc (.cells #[.int .i64 H, .slice A l.length c] 24)).alloc (.cells #[.int .i64 n, .int .i64 d] 26)).alloc (.cells #[.int .i64 0, .int .i64 0] 55) = w0 := by rw [hWa, hWb, hWc]
    have HW := hide hABC
    have kS0 := (ka.bel bb).bel bc
    have kL0 := kb.bel bc
    have hr0 := ((hr.bel ba).bel bb).bel bc
    have hB0 : Below q w w0 := by
      rw [hq] at ba
      exact (ba.trans (bb.mono (by omega))).trans (bc.mono (by omega))
    have z0 : q ≤ w0.heap.size := by have := kS0.lt; omega
    have y0 := kS0.lt
    have x0 := kL0.lt
    clear hABC hWa hWb hWc ba bb bc ka kb sa sb
    have s0 := kS0.cell 0; have s1 := kS0.cell 1; simp only [List.getElem?_cons_zero, List.getElem?_cons_succ] at s0 s1
    have t0 := kL0.cell 0; have t1 := kL0.cell 1; simp only [List.getElem?_cons_zero, List.getElem?_cons_succ] at t0 t1
    go_enter Try.func40, Try.ntmps40
    go_upto_region 1 with fail
    try simp only [World.size_alloc, hq, hq1, hq2]
    rw [HW.out]
    have hSd : (∀ b o, b < w0.heap.size → w0.drew.cell? ⟨b, o, none⟩ = w0.cell? ⟨b, o, none⟩) ∧ Below w0.heap.size w0 w0.drew := kp (Below.refl _ _).drew
    refine wp_region_held (S := fun w' => (∀ b o, b < w0.heap.size → w'.cell? ⟨b, o, none⟩ = w0.cell? ⟨b, o, none⟩) ∧ Below w0.heap.size w0 w') (by kernel_rfl) ?_
    change wpAnyH _ _ _ _ _ _ _ _ w0.drew
    refine wpAnyH_take (i := 0) (v := ?_) rfl (by kernel_rfl) (by kernel_rfl) (by kernel_rfl) (fun _ _ _ h => h) (Or.inl ⟨by kernel_rfl, ?_⟩) (by assumption) ?_
    rotate_left 1
    · (intro w hSw; obtain ⟨hk1, hk2⟩ := hSw; go_simp <;> with_reducible rfl)
    simp only [Act.put, List.getElem_toArray, List.getElem_cons_zero, List.setIfInBounds_toArray, List.set_cons_zero, List.set_cons_succ]
    refine wpAnyH_take (i := 1) (v := ?_) rfl (by kernel_rfl) (by kernel_rfl) (by kernel_rfl) (fun _ _ _ h => h) (Or.inl ⟨by kernel_rfl, ?_⟩) (by assumption) ?_
    rotate_left 1
    · (intro w hSw; obtain ⟨hk1, hk2⟩ := hSw; go_simp <;> with_reducible rfl)
    simp only [Act.put, List.getElem_toArray, List.getElem_cons_zero, List.getElem_cons_succ, List.setIfInBounds_toArray, List.set_cons_zero, List.set_cons_succ]
    refine wpAnyH_take (i := 2) (v := ?_) rfl (by kernel_rfl) (by kernel_rfl) (by kernel_rfl) (fun _ _ _ h => h) (Or.inl ⟨by kernel_rfl, ?_⟩) (by assumption) ?_
    rotate_left 1
    · (intro w hSw; obtain ⟨hk1, hk2⟩ := hSw; go_simp <;> with_reducible rfl)
    simp only [Act.put, List.getElem_toArray, List.getElem_cons_zero, List.getElem_cons_succ, List.setIfInBounds_toArray, List.set_cons_zero, List.set_cons_succ]
    refine wpAnyH_take (i := 4) (v := ?_) rfl (by kernel_rfl) (by kernel_rfl) (by kernel_rfl) (fun _ _ _ h => h) (Or.inl ⟨by kernel_rfl, ?_⟩) (by assumption) ?_
    rotate_left 1
    · (intro w hSw; obtain ⟨hk1, hk2⟩ := hSw; go_simp <;> with_reducible rfl)
    simp only [Act.put, List.getElem_toArray, List.getElem_cons_zero, List.getElem_cons_succ, List.setIfInBounds_toArray, List.set_cons_zero, List.set_cons_succ]
    refine wpAnyH_take (i := 5) (v := ?_) rfl (by kernel_rfl) (by kernel_rfl) (by kernel_rfl) (fun _ _ _ h => h) (Or.inl ⟨by kernel_rfl, ?_⟩) (by assumption) ?_
    rotate_left 1
    · (intro w hSw; obtain ⟨hk1, hk2⟩ := hSw; go_simp <;> with_reducible rfl)
    simp only [Act.put, List.getElem_toArray, List.getElem_cons_zero, List.getElem_cons_succ, List.setIfInBounds_toArray, List.set_cons_zero, List.set_cons_succ]
    refine wpAnyH_take (i := 6) (v := ?_) rfl (by kernel_rfl) (by kernel_rfl) (by kernel_rfl) (fun _ _ _ h => h) (Or.inl ⟨by kernel_rfl, ?_⟩) (by assumption) ?_
    rotate_left 1
    · (intro w hSw; obtain ⟨hk1, hk2⟩ := hSw; go_simp <;> with_reducible rfl)
    simp only [Act.put, List.getElem_toArray, List.getElem_cons_zero, List.getElem_cons_succ, List.setIfInBounds_toArray, List.set_cons_zero, List.set_cons_succ]
    refine nextH (i := 3) (by kernel_rfl) rfl (fun K hK => ?_)
    go_simp
    refine (HAP.out _ (hr0.bel hSd.2)).mono ?_
    rintro e_ w1 ⟨rfl, hb1⟩
    have hS' := kp (bel_tr hSd.2 hSd.2.size hb1)
    try dsimp only
    refine hK _ _ hS' ?_
    clear hK K hSd
    have hSd := hS'
    clear hS'
    refine wpAnyH_take (i := 7) (v := ?_) rfl (by kernel_rfl) (by kernel_rfl) (by kernel_rfl) (fun _ _ _ h => h) (Or.inl ⟨by kernel_rfl, ?_⟩) (by assumption) ?_
    rotate_left 1
    · (intro w hSw; obtain ⟨hk1, hk2⟩ := hSw; go_simp <;> with_reducible rfl)
    simp only [Act.put, List.getElem_toArray, List.getElem_cons_zero, List.getElem_cons_succ, List.setIfInBounds_toArray, List.set_cons_zero, List.set_cons_succ]
    refine wpAnyH_done (by kernel_rfl) ?_ _
    have kS1 := kS0.bel hSd.2
    have kL1 := kL0.bel hSd.2
    have kR1 := kR0.bel hSd.2
    have hr1 := hr0.bel hSd.2
    have hB1 : Below q w w1 := hB0.trans (hSd.2.mono z0)
    have z1 : q ≤ w1.heap.size := by have := hSd.2.size; omega
    have y1 := kS1.lt
    have x1 := kL1.lt
    have yR := kR1.lt
    clear s0 s1 t0 t1 kS0 kL0 kR0 hr0 hB0 z0 y0 x0 hb1 hSd
    obtain ⟨r0, r1, f0, f1⟩ := blk_two kR1
    go_wp2
    obtain ⟨WE, hWE⟩ : ∃ WE, (w1.setCell ⟨q2, 0, none⟩ (.int .i64 0)).setCell ⟨q2, 1, none⟩ (.int .i64 0) = WE := ⟨_, rfl⟩
    rw [hWE]
    have hE : Blk WE q2 55 [.int .i64 0, .int .i64 0] := by rw [← hWE]; exact (kR1.set_ 0 _).set_ 1 _
    have hqq : q ≤ q2 := by omega
    have hBE : Below q w WE := by rw [← hWE]; exact (hB1.setCell hqq _).setCell hqq _
    clear hWE
    have g0 := hE.cell 0; have g1 := hE.cell 1; simp only [List.getElem?_cons_zero, List.getElem?_cons_succ] at g0 g1
    exact bodyPost_ret (v := .tuple #[.agg #[.int .i64 0, .int .i64 0], .bool false]) (by simp [results, Try.results40, go_sem, g0, g1]; try rfl) rfl ⟨by rw [HR2.out], by first | exact hBE | (rw [hq]; exact hBE)⟩
  · have HR2 : Hid (gndV H f n d l = ((2 * s1, 2 * s2), true)) := by show _ = _; rw [HR.out, if_neg hp, HGQ.out]
    have hp1 : ¬ (pasN f n d l : Int) = (l.length : Int) := by omega
    have hp2 : ((pasN f n d l : Int) == (l.length : Int)) = false := by simpa using hp1
    generalize pasN f n d l = P at HAP hp1 hp2 hpl
    clear HR hp HGQ
    obtain ⟨q, hq⟩ : ∃ q, w.heap.size = q := ⟨_, rfl⟩
    obtain ⟨q1, hq1⟩ : ∃ q1, q + 1 = q1 := ⟨_, rfl⟩
    obtain ⟨q2, hq2⟩ : ∃ q2, q1 + 1 = q2 := ⟨_, rfl⟩
    obtain ⟨Wa, hWa⟩ : ∃ Wa, w.alloc (.cells #[.int .i64 H, .slice A l.length c] 24) = Wa := ⟨_, rfl⟩
    have ba : Below w.heap.size w Wa := by rw [← hWa]; exact alloc_bel _ _
    have sa : Wa.heap.size = q1 := by rw [← hWa, ← hq1, ← hq]; simp
    have ka : Blk Wa q 24 [.int .i64 H, .slice A l.length c] := by rw [← hWa, ← hq]; exact Blk.new w _ [_, _]
    obtain ⟨Wb, hWb⟩ : ∃ Wb, Wa.alloc (.cells #[.int .i64 n, .int .i64 d] 26) = Wb := ⟨_, rfl⟩
    have bb : Below Wa.heap.size Wa Wb := by rw [← hWb]; exact alloc_bel _ _
    have sb : Wb.heap.size = q2 := by rw [← hWb, ← hq2, ← sa]; simp
    have kb : Blk Wb q1 26 [.int .i64 n, .int .i64 d] := by rw [← hWb, ← sa]; exact Blk.new Wa _ [_, _]
    obtain ⟨w0, hWc⟩ : ∃ w0, Wb.alloc (.cells #[.int .i64 0, .int .i64 0] 55) = w0 := ⟨_, rfl⟩
    have bc : Below Wb.heap.size Wb w0 := by rw [← hWc]; exact alloc_bel _ _
    have kR0 : Blk w0 q2 55 [.int .i64 0, .int .i64 0] := by rw [← hWc, ← sb]; exact Blk.new Wb _ [_, _]
    have hABC : ((w.alloc (.cells #[.int .i64 H, .slice A l.length c] 24)).alloc (.cells #[.int .i64 n, .int .i64 d] 26)).alloc (.cells #[.int .i64 0, .int .i64 0] 55) = w0 := by rw [hWa, hWb, hWc]
    have HW := hide hABC
    have kS0 := (ka.bel bb).bel bc
    have kL0 := kb.bel bc
    have hr0 := ((hr.bel ba).bel bb).bel bc
    have hB0 : Below q w w0 := by
      rw [hq] at ba
      exact (ba.trans (bb.mono (by omega))).trans (bc.mono (by omega))
    have z0 : q ≤ w0.heap.size := by have := kS0.lt; omega
    have y0 := kS0.lt
    have x0 := kL0.lt
    clear hABC hWa hWb hWc ba bb bc ka kb sa sb
    have s0 := kS0.cell 0; have s1 := kS0.cell 1; simp only [List.getElem?_cons_zero, List.getElem?_cons_succ] at s0 s1
    have t0 := kL0.cell 0; have t1 := kL0.cell 1; simp only [List.getElem?_cons_zero, List.getElem?_cons_succ] at t0 t1
    go_enter Try.func40, Try.ntmps40
    go_upto_region 1 with fail
    try simp only [World.size_alloc, hq, hq1, hq2]
    rw [HW.out]
    have hSd : (∀ b o, b < w0.heap.size → w0.drew.cell? ⟨b, o, none⟩ = w0.cell? ⟨b, o, none⟩) ∧ Below w0.heap.size w0 w0.drew := kp (Below.refl _ _).drew
    refine wp_region_held (S := fun w' => (∀ b o, b < w0.heap.size → w'.cell? ⟨b, o, none⟩ = w0.cell? ⟨b, o, none⟩) ∧ Below w0.heap.size w0 w') (by kernel_rfl) ?_
    change wpAnyH _ _ _ _ _ _ _ _ w0.drew
    refine wpAnyH_take (i := 0) (v := ?_) rfl (by kernel_rfl) (by kernel_rfl) (by kernel_rfl) (fun _ _ _ h => h) (Or.inl ⟨by kernel_rfl, ?_⟩) (by assumption) ?_
    rotate_left 1
    · (intro w hSw; obtain ⟨hk1, hk2⟩ := hSw; go_simp <;> with_reducible rfl)
    simp only [Act.put, List.getElem_toArray, List.getElem_cons_zero, List.setIfInBounds_toArray, List.set_cons_zero, List.set_cons_succ]
    refine wpAnyH_take (i := 1) (v := ?_) rfl (by kernel_rfl) (by kernel_rfl) (by kernel_rfl) (fun _ _ _ h => h) (Or.inl ⟨by kernel_rfl, ?_⟩) (by assumption) ?_
    rotate_left 1
    · (intro w hSw; obtain ⟨hk1, hk2⟩ := hSw; go_simp <;> with_reducible rfl)
    simp only [Act.put, List.getElem_toArray, List.getElem_cons_zero, List.getElem_cons_succ, List.setIfInBounds_toArray, List.set_cons_zero, List.set_cons_succ]
    refine wpAnyH_take (i := 2) (v := ?_) rfl (by kernel_rfl) (by kernel_rfl) (by kernel_rfl) (fun _ _ _ h => h) (Or.inl ⟨by kernel_rfl, ?_⟩) (by assumption) ?_
    rotate_left 1
    · (intro w hSw; obtain ⟨hk1, hk2⟩ := hSw; go_simp <;> with_reducible rfl)
    simp only [Act.put, List.getElem_toArray, List.getElem_cons_zero, List.getElem_cons_succ, List.setIfInBounds_toArray, List.set_cons_zero, List.set_cons_succ]
    refine wpAnyH_take (i := 4) (v := ?_) rfl (by kernel_rfl) (by kernel_rfl) (by kernel_rfl) (fun _ _ _ h => h) (Or.inl ⟨by kernel_rfl, ?_⟩) (by assumption) ?_
    rotate_left 1
    · (intro w hSw; obtain ⟨hk1, hk2⟩ := hSw; go_simp <;> with_reducible rfl)
    simp only [Act.put, List.getElem_toArray, List.getElem_cons_zero, List.getElem_cons_succ, List.setIfInBounds_toArray, List.set_cons_zero, List.set_cons_succ]
    refine wpAnyH_take (i := 5) (v := ?_) rfl (by kernel_rfl) (by kernel_rfl) (by kernel_rfl) (fun _ _ _ h => h) (Or.inl ⟨by kernel_rfl, ?_⟩) (by assumption) ?_
    rotate_left 1
    · (intro w hSw; obtain ⟨hk1, hk2⟩ := hSw; go_simp <;> with_reducible rfl)
    simp only [Act.put, List.getElem_toArray, List.getElem_cons_zero, List.getElem_cons_succ, List.setIfInBounds_toArray, List.set_cons_zero, List.set_cons_succ]
    refine wpAnyH_take (i := 6) (v := ?_) rfl (by kernel_rfl) (by kernel_rfl) (by kernel_rfl) (fun _ _ _ h => h) (Or.inl ⟨by kernel_rfl, ?_⟩) (by assumption) ?_
    rotate_left 1
    · (intro w hSw; obtain ⟨hk1, hk2⟩ := hSw; go_simp <;> with_reducible rfl)
    simp only [Act.put, List.getElem_toArray, List.getElem_cons_zero, List.getElem_cons_succ, List.setIfInBounds_toArray, List.set_cons_zero, List.set_cons_succ]
    refine nextH (i := 3) (by kernel_rfl) rfl (fun K hK => ?_)
    go_simp
    refine (HAP.out _ (hr0.bel hSd.2)).mono ?_
    rintro e_ w1 ⟨rfl, hb1⟩
    have hS' := kp (bel_tr hSd.2 hSd.2.size hb1)
    try dsimp only
    refine hK _ _ hS' ?_
    clear hK K hSd
    have hSd := hS'
    clear hS'
    refine wpAnyH_take (i := 7) (v := ?_) rfl (by kernel_rfl) (by kernel_rfl) (by kernel_rfl) (fun _ _ _ h => h) (Or.inl ⟨by kernel_rfl, ?_⟩) (by assumption) ?_
    rotate_left 1
    · (intro w hSw; obtain ⟨hk1, hk2⟩ := hSw; go_simp <;> with_reducible rfl)
    simp only [Act.put, List.getElem_toArray, List.getElem_cons_zero, List.getElem_cons_succ, List.setIfInBounds_toArray, List.set_cons_zero, List.set_cons_succ]
    refine wpAnyH_done (by kernel_rfl) ?_ _
    have kS1 := kS0.bel hSd.2
    have kL1 := kL0.bel hSd.2
    have kR1 := kR0.bel hSd.2
    have hr1 := hr0.bel hSd.2
    have hB1 : Below q w w1 := hB0.trans (hSd.2.mono z0)
    have z1 : q ≤ w1.heap.size := by have := hSd.2.size; omega
    have y1 := kS1.lt
    have x1 := kL1.lt
    have yR := kR1.lt
    clear s0 s1 t0 t1 kS0 kL0 kR0 hr0 hB0 z0 y0 x0 hb1 hSd
    have m0 := kS1.cell 0; have m1 := kS1.cell 1; simp only [List.getElem?_cons_zero, List.getElem?_cons_succ] at m0 m1
    have t0 := kL1.cell 0; have t1 := kL1.cell 1; simp only [List.getElem?_cons_zero, List.getElem?_cons_succ] at t0 t1
    go_upto_region 4 with (first
      | (go_at_call 39; refine (HLE.out _ hr1).mono ?_; rintro e_ w2 ⟨⟨A2, c2, rfl, ra2, rc2⟩, hb2⟩)
      | (go_at_call 112; refine (HSU.out _ _ _ ra2).mono ?_; rintro e_ w3 ⟨rfl, hb3⟩))
    have hb13 := bel_tr hb2 hb2.size hb3
    obtain ⟨v, hv⟩ : ∃ v, w3.heap.size = v := ⟨_, rfl⟩
    obtain ⟨w4, hw4⟩ : ∃ w4, w3.alloc (.cells #[.int .i64 s1, .int .i64 s2] 55) = w4 := ⟨_, rfl⟩
    have b4 : Below w3.heap.size w3 w4 := by rw [← hw4]; exact alloc_bel _ _
    have kV : Blk w4 v 55 [.int .i64 s1, .int .i64 s2] := by rw [← hw4, ← hv]; exact Blk.new w3 _ [_, _]
    have hb14 := bel_tr hb13 hb13.size b4
    have kR4 := kR1.bel hb14
    have hB4 : Below q w w4 := hB1.trans (hb14.mono z1)
    have zv : v < w4.heap.size := kV.lt
    have yR4 := kR4.lt
    rw [hw4]
    try simp only [hv]
    clear hw4 hv b4 hb13 hb14 hb2 hb3 kS1 kL1 kR1 hr1 hB1 ra2 rc2
    have v0 := kV.cell 0; have v1 := kV.cell 1; simp only [List.getElem?_cons_zero, List.getElem?_cons_succ] at v0 v1
    obtain ⟨r0, r1, f0, f1⟩ := blk_two kR4
    go_wp2
    obtain ⟨WE, hWE⟩ : ∃ WE, (w4.setCell ⟨q2, 0, none⟩ (.int .i64 (2 * s1))).setCell ⟨q2, 1, none⟩ (.int .i64 (2 * s2)) = WE := ⟨_, rfl⟩
    rw [hWE]
    have hE : Blk WE q2 55 [.int .i64 (2 * s1), .int .i64 (2 * s2)] := by rw [← hWE]; exact (kR4.set_ 0 _).set_ 1 _
    have hqq : q ≤ q2 := by omega
    have hBE : Below q w WE := by rw [← hWE]; exact (hB4.setCell hqq _).setCell hqq _
    clear hWE
    have g0 := hE.cell 0; have g1 := hE.cell 1; simp only [List.getElem?_cons_zero, List.getElem?_cons_succ] at g0 g1
    exact bodyPost_ret (v := .tuple #[.agg #[.int .i64 (2 * s1), .int .i64 (2 * s2)], .bool true]) (by simp [results, Try.results40, go_sem, g0, g1]; try rfl) rfl ⟨by rw [HR2.out], by first | exact hBE | (rw [hq]; exact hBE)⟩
theorem refGridErr_c (g : Int) (w : World) : Calls Try.prog 51 #[.int .i64 g] w fun r w' => r = .returned (.int .i64 (gridE g)) ∧ w = w' := by
  cases h : outB g 1 100
  all_goals (
    have HW := hide (fun W => within_c g 1 100 W)
    rw [h] at HW
    go_enter Try.func51, Try.ntmps51
    go_wp2_with (go_at_call 48; refine (HW.out _).mono ?_; rintro e_ w_ ⟨rfl, rfl⟩)
    go_ret
    exact ⟨by unfold gridE; rw [h]; rfl, rfl⟩)
theorem refLaunch_c (g k : Int) (w : World) (g0 : 1 ≤ g) (g1 : g ≤ 1000) (k0 : 0 ≤ k) (k1 : k ≤ 1000) : Calls Try.prog 52 #[.int .i64 g, .int .i64 k] w fun r w' => r = .returned (.agg #[.int .i64 (redQ k g).1, .int .i64 (redQ k g).2]) ∧ Below w.heap.size w w' := by
  have HLO := hide (fun W => lowest_c k g W g0 (by omega) (by omega) (by omega))
  obtain ⟨z, hz⟩ : ∃ z, redQ k g = z := ⟨_, rfl⟩
  rw [hz] at HLO ⊢
  obtain ⟨a, b⟩ := z
  dsimp only at HLO ⊢
  clear hz
  obtain ⟨p, hp⟩ : ∃ p, w.heap.size = p := ⟨_, rfl⟩
  obtain ⟨W, hW⟩ : ∃ W, w.alloc (.cells #[.int .i64 0, .int .i64 0] 26) = W := ⟨_, rfl⟩
  have hB0 : Below p w W := by rw [← hW, ← hp]; exact alloc_bel _ _
  have hX : Blk W p 26 [.int .i64 0, .int .i64 0] := by rw [← hW, ← hp]; exact Blk.new w _ [_, _]
  have HW := hide hW
  have hz := hX.lt
  clear hW
  go_enter Try.func52, Try.ntmps52
  go_upto_region 1 with fail
  try simp only [hp]
  rw [HW.out]
  go_wp2_with (go_at_call 87; refine (HLO.out _).mono ?_; rintro e_ w1 ⟨rfl, hb1⟩; have hX1 := hX.bel hb1; have hB1 : Below p w w1 := bel_tr hB0 (by omega) hb1; obtain ⟨x0, x1, f0, f1⟩ := blk_two hX1)
  obtain ⟨WE, hWE⟩ : ∃ WE, (w1.setCell ⟨p, 0, none⟩ (.int .i64 a)).setCell ⟨p, 1, none⟩ (.int .i64 b) = WE := ⟨_, rfl⟩
  rw [hWE]
  have hE : Blk WE p 26 [.int .i64 a, .int .i64 b] := by rw [← hWE]; exact (hX1.set_ 0 _).set_ 1 _
  have hBE : Below p w WE := by rw [← hWE]; exact (hB1.setCell (Nat.le_refl _) _).setCell (Nat.le_refl _) _
  clear hWE
  have g0 := hE.cell 0; have g1 := hE.cell 1; simp only [List.getElem?_cons_zero, List.getElem?_cons_succ] at g0 g1
  exact bodyPost_ret (v := .agg #[.int .i64 a, .int .i64 b]) (by simp [results, Try.results52, go_sem, g0, g1]; try rfl) rfl ⟨rfl, by first | exact hBE | (rw [hp]; exact hBE)⟩
end Go.Proofs.Ytkcjiejdjdcbeaa

