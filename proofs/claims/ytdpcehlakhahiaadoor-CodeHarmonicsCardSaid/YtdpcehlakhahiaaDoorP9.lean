/- Contracts: Euclid's algorithm twice, the whole part of a fraction, the comparison of two fractions. -/
import Derived.Test.YtdpcehlakhahiaaDoorP8
namespace Go.Proofs.YtdpcehlakhahiaaDoor
open Go.RowKit
set_option maxRecDepth 100000

/-- Euclid's algorithm on remainders that may be negative, with so many steps at most. -/
def euc : Nat → Int → Int → Int
  | 0, a, _ => a
  | n + 1, a, b => if b = 0 then a else euc n b (a.tmod b)
/-- What is left at its end. -/
def eu (a b : Int) : Int := euc (b.natAbs + 1) a b
theorem euc_more : ∀ (n m : Nat) (a b : Int), b.natAbs < n → n ≤ m → euc m a b = euc n a b
  | 0, _, _, _, h, _ => by omega
  | n + 1, 0, _, _, _, h => by omega
  | n + 1, m + 1, a, b, h, hm => by
    show (if b = 0 then a else euc m b (a.tmod b)) = (if b = 0 then a else euc n b (a.tmod b))
    by_cases hb : b = 0
    · rw [if_pos hb, if_pos hb]
    · rw [if_neg hb, if_neg hb]
      have h1 : (a.tmod b).natAbs < b.natAbs := by
        rw [Int.natAbs_tmod]
        exact Nat.mod_lt _ (by omega)
      exact euc_more n m b (a.tmod b) (by omega) (by omega)
theorem eu_zero (a : Int) : eu a 0 = a := rfl
theorem eu_step {a b : Int} (h : b ≠ 0) : eu a b = eu b (a.tmod b) := by
  have h1 : (a.tmod b).natAbs < b.natAbs := by
    rw [Int.natAbs_tmod]
    exact Nat.mod_lt _ (by omega)
  show (if b = 0 then a else euc b.natAbs b (a.tmod b)) = _
  rw [if_neg h]
  exact euc_more _ _ _ _ (by omega) (by omega)

theorem coprime_c (a b : Int) (w : World) : Calls Tryd.prog 100 #[.int .i64 a, .int .i64 b] w fun r w' => r = .returned (.bool (decide (eu a b = 1 ∨ eu a b = -1))) ∧ Below w.heap.size w w' := by
  go_enter Tryd.func100, Tryd.ntmps100
  go_wp2
  go_loopw [0, 1] (fun x y wr => ∃ p q : Int, x = .int .i64 p ∧ y = .int .i64 q ∧ eu p q = eu a b ∧ Below w.heap.size w wr) (fun _ y _ => (intOf y).natAbs)
  case atStart => exact ⟨a, b, rfl, rfl, rfl, Below.refl _ _⟩
  case round =>
    obtain ⟨p, q, rfl, rfl, he, hbr⟩ := hrel
    by_cases hq : q = 0
    · subst hq
      have HE : Hid (decide (eu a b = 1 ∨ eu a b = -1) = (p == 1 || p == -1)) := by
        show _ = _
        rw [← he, eu_zero]
        by_cases h1 : p = 1 <;> by_cases h2 : p = -1 <;> simp [h1, h2]
      clear he
      by_cases h1 : p = 1
      · subst h1
        go_wp2
        go_ret
        exact ⟨by rw [HE.out]; rfl, hbr⟩
      · have e1 : (p == 1) = false := by simpa using h1
        go_wp2
        go_ret
        exact ⟨by rw [HE.out, e1]; rfl, hbr⟩
    · have e1 : (q != 0) = true := by simpa using hq
      have h1 : (p.tmod q).natAbs < q.natAbs := by
        rw [Int.natAbs_tmod]
        exact Nat.mod_lt _ (by omega)
      have H : Hid (eu q (p.tmod q) = eu a b) := by show _ = _; rw [← he, ← eu_step hq]
      clear he
      go_upto_region 2 with fail
      go_quiet (fail)
      go_wp2
      go_roundw
      case rel => exact ⟨q, p.tmod q, rfl, rfl, H.out, below_drewN hbr _⟩
      case measure => simpa [intOf] using h1

theorem size1_c (n : Int) (w : World) (h1 : -9223372036854775808 ≤ n) (h2 : n ≤ 9223372036854775807) : Calls Tryd.prog 86 #[.int .i64 n] w fun r w' => (∃ s : Int, r = .returned (.int .i64 s) ∧ (s = 1 ↔ n = 1 ∨ n = -1)) ∧ w = w' := by
  by_cases h : n = -9223372036854775808
  · subst h
    go_enter Tryd.func86, Tryd.ntmps86
    go_wp2
    go_ret
    exact ⟨⟨_, rfl, by rw [show wrap64 9223372036854775808 = -9223372036854775808 from by unfold wrap64; omega]; omega⟩, rfl⟩
  · refine (size_c n w (by omega) h2).mono ?_
    rintro e w' ⟨rfl, hw⟩
    refine ⟨⟨_, rfl, ?_⟩, hw⟩
    split <;> omega

theorem gcd_c (a b : Int) (w : World) (ha1 : -9223372036854775808 ≤ a) (ha2 : a ≤ 9223372036854775807) (hb1 : -9223372036854775808 ≤ b) (hb2 : b ≤ 9223372036854775807) :
    Calls Tryd.prog 101 #[.int .i64 a, .int .i64 b] w fun r w' => (∃ s : Int, r = .returned (.int .i64 s) ∧ (s = 1 ↔ eu a b = 1 ∨ eu a b = -1)) ∧ Below w.heap.size w w' := by
  go_enter Tryd.func101, Tryd.ntmps101
  go_wp2
  go_loopw [0, 1] (fun x y wr => ∃ p q : Int, x = .int .i64 p ∧ y = .int .i64 q ∧ eu p q = eu a b ∧ (-9223372036854775808 ≤ p ∧ p ≤ 9223372036854775807 ∧ -9223372036854775808 ≤ q ∧ q ≤ 9223372036854775807) ∧ Below w.heap.size w wr) (fun _ y _ => (intOf y).natAbs)
  case atStart => exact ⟨a, b, rfl, rfl, rfl, ⟨ha1, ha2, hb1, hb2⟩, Below.refl _ _⟩
  case round =>
    obtain ⟨p, q, rfl, rfl, he, ⟨g1, g2, g3, g4⟩, hbr⟩ := hrel
    by_cases hq : q = 0
    · subst hq
      have HE : Hid (eu p 0 = eu a b) := he
      clear he
      go_wp2_with (first | (go_at_call 86; refine (size1_c p _ g1 g2).mono ?_; rintro e_ w_ ⟨⟨s, rfl, hs⟩, rfl⟩))
      go_ret
      exact ⟨⟨s, rfl, by rw [← HE.out, eu_zero]; exact hs⟩, hbr⟩
    · have e1 : (q != 0) = true := by simpa using hq
      have h1 : (p.tmod q).natAbs < q.natAbs := by
        rw [Int.natAbs_tmod]
        exact Nat.mod_lt _ (by omega)
      have H : Hid (eu q (p.tmod q) = eu a b) := by show _ = _; rw [← he, ← eu_step hq]
      clear he
      go_upto_region 2 with fail
      go_quiet (fail)
      go_wp2
      go_roundw
      case rel => exact ⟨q, p.tmod q, rfl, rfl, H.out, ⟨g3, g4, by omega, by omega⟩, below_drewN hbr _⟩
      case measure => simpa [intOf] using h1

theorem isLowest_c (a b : Int) (w : World) (ha1 : -9223372036854775808 ≤ a) (ha2 : a ≤ 9223372036854775807) (hb1 : -9223372036854775808 ≤ b) (hb2 : b ≤ 9223372036854775807) :
    Calls Tryd.prog 77 #[.agg #[.int .i64 a, .int .i64 b]] w fun r w' => r = .returned (.bool (decide (0 < b) && decide (eu a b = 1 ∨ eu a b = -1))) ∧ Below w.heap.size w w' := by
  have hX := Blk.new w 43 [.int .i64 a, .int .i64 b]
  have hA := alloc_bel w (.cells #[.int .i64 a, .int .i64 b] 43)
  have HG := hide (fun W => gcd_c a b W ha1 ha2 hb1 hb2)
  have c0 := hX.cell 0; have c1 := hX.cell 1; simp only [List.getElem?_cons_zero, List.getElem?_cons_succ] at c0 c1
  by_cases hb : 0 < b
  · have e1 : decide (0 < b) = true := by simpa using hb
    go_enter Tryd.func77, Tryd.ntmps77
    go_wp2_with (first | (go_at_call 101; refine (HG.out _).mono ?_; rintro e_ w1 ⟨⟨s, rfl, hs⟩, hb1⟩; have HS : Hid (s = 1 ↔ eu a b = 1 ∨ eu a b = -1) := hs; clear hs))
    go_ret
    refine ⟨?_, tr hA hb1 (by simp)⟩
    rw [e1, Bool.true_and]
    have : (s == 1) = decide (eu a b = 1 ∨ eu a b = -1) := by
      by_cases h : s = 1
      · rw [decide_eq_true (HS.out.1 h)]; simpa using h
      · rw [decide_eq_false (fun k => h (HS.out.2 k))]; simpa using h
    rw [← this]; rfl
  · have e1 : decide (0 < b) = false := by simpa using hb
    go_enter Tryd.func77, Tryd.ntmps77
    go_wp2
    go_ret
    exact ⟨rfl, hA⟩

theorem floor_c (n d : Int) (w : World) (hn : 0 ≤ n) (hn2 : n ≤ 9223372036854775807) (hd : 1 ≤ d) (hd2 : d ≤ 9223372036854775807) : Calls Tryd.prog 102 #[.int .i64 n, .int .i64 d] w fun r w' => r = .returned (.int .i64 (n / d)) ∧ w = w' := by
  have e1 : n.tdiv d = n / d := Int.tdiv_eq_ediv_of_nonneg hn
  have e2 : n.tmod d = n % d := Int.tmod_eq_emod_of_nonneg hn
  have h3 := Int.emod_nonneg n (show d ≠ 0 by omega)
  have h4 : n / d ≤ n := Int.ediv_le_self _ hn
  have h5 : 0 ≤ n / d := Int.ediv_nonneg hn (by omega)
  have hd0 : (d == 0) = false := by simp; omega
  have hd1 : d ≠ 0 := by omega
  go_enter Tryd.func102, Tryd.ntmps102
  go_wp2
  go_ret
  exact ⟨rfl, rfl⟩

/-- Which of two fractions is greater. -/
def cmpS (n d m k : Int) : Int := if n * k < m * d then -1 else if m * d < n * k then 1 else 0
theorem cmpS_lt {n d m k : Int} (hd : 1 ≤ d) (hk : 1 ≤ k) (h : n / d < m / k) : cmpS n d m k = -1 := by
  unfold cmpS
  rw [if_pos]
  have h1 : n < (n / d + 1) * d := by
    have := Int.emod_lt_of_pos n (show 0 < d by omega)
    have e := Int.mul_ediv_add_emod n d
    rw [Int.add_mul, Int.one_mul, Int.mul_comm]; omega
  have h2 : m / k * k ≤ m := Int.ediv_mul_le m (by omega)
  have h3 : (n / d + 1) * d ≤ m / k * d := Int.mul_le_mul_of_nonneg_right (by omega) (by omega)
  have h4 : n * k < m / k * d * k := Int.mul_lt_mul_of_pos_right (by omega) (by omega)
  have h5 : m / k * k * d ≤ m * d := Int.mul_le_mul_of_nonneg_right h2 (by omega)
  have h6 : m / k * d * k = m / k * k * d := by rw [Int.mul_assoc, Int.mul_comm d k, ← Int.mul_assoc]
  omega
theorem cmpS_swap (n d m k : Int) : cmpS m k n d = -cmpS n d m k := by
  unfold cmpS
  by_cases h1 : n * k < m * d
  · rw [if_neg (by omega), if_pos h1, if_pos h1]; rfl
  · by_cases h2 : m * d < n * k
    · rw [if_pos h2, if_neg h1, if_pos h2]
    · rw [if_neg h2, if_neg h1, if_neg h1, if_neg h2]; rfl
theorem cmpS_gt {n d m k : Int} (hd : 1 ≤ d) (hk : 1 ≤ k) (h : m / k < n / d) : cmpS n d m k = 1 := by
  have := cmpS_lt hk hd h
  rw [cmpS_swap] at this
  omega
theorem cmpS_rest {n d m k : Int} (h : n / d = m / k) : cmpS n d m k = cmpS (n - n / d * d) d (m - m / k * k) k := by
  unfold cmpS
  rw [Int.sub_mul, Int.sub_mul]
  have e : n / d * d * k = m / k * k * d := by rw [h, Int.mul_assoc, Int.mul_comm d k, ← Int.mul_assoc]
  rw [e]
  by_cases h1 : n * k < m * d
  · rw [if_pos h1, if_pos (by omega)]
  · rw [if_neg h1, if_neg (show ¬ (n * k - m / k * k * d < m * d - m / k * k * d) by omega)]
    by_cases h2 : m * d < n * k
    · rw [if_pos h2, if_pos (by omega)]
    · rw [if_neg h2, if_neg (by omega)]
theorem cmpS_turn (n d m k : Int) : cmpS n d m k = cmpS k m d n := by
  unfold cmpS
  rw [Int.mul_comm k n, Int.mul_comm d m]
theorem rest_bd {n d : Int} (hn : 0 ≤ n) (hd : 1 ≤ d) : 0 ≤ n / d * d ∧ n / d * d ≤ n ∧ 0 ≤ n - n / d * d ∧ n - n / d * d < d := by
  have h1 := Int.emod_nonneg n (show d ≠ 0 by omega)
  have h2 := Int.emod_lt_of_pos n (show 0 < d by omega)
  have e := Int.mul_ediv_add_emod n d
  rw [Int.mul_comm] at e
  have h3 : 0 ≤ n / d := Int.ediv_nonneg hn (by omega)
  have h4 : 0 ≤ n / d * d := Int.mul_nonneg h3 (by omega)
  omega

set_option maxHeartbeats 1000000 in
theorem compare_c (n d m k : Int) (w : World) (hn : 0 ≤ n) (hm : 0 ≤ m) (hd : 1 ≤ d) (hk : 1 ≤ k) (hn2 : n ≤ 9223372036854775807) (hm2 : m ≤ 9223372036854775807) (hd2 : d ≤ 9223372036854775807) (hk2 : k ≤ 9223372036854775807) :
    Calls Tryd.prog 78 #[.int .i64 n, .int .i64 d, .int .i64 m, .int .i64 k] w fun r w' => r = .returned (.int .i64 (cmpS n d m k)) ∧ w = w' := by
  go_enter Tryd.func78, Tryd.ntmps78
  go_wp2
  go_loopw [0, 1, 2, 3] (fun t0 t1 t2 t3 wr => ∃ n' d' m' k' : Int, t0 = .int .i64 n' ∧ t1 = .int .i64 d' ∧ t2 = .int .i64 m' ∧ t3 = .int .i64 k' ∧ cmpS n' d' m' k' = cmpS n d m k ∧ (0 ≤ n' ∧ 0 ≤ m' ∧ 1 ≤ d' ∧ 1 ≤ k' ∧ n' ≤ 9223372036854775807 ∧ m' ≤ 9223372036854775807 ∧ d' ≤ 9223372036854775807 ∧ k' ≤ 9223372036854775807) ∧ w = wr) (fun _ t1 _ t3 _ => (intOf t1 + intOf t3).toNat)
  case atStart => exact ⟨n, d, m, k, rfl, rfl, rfl, rfl, rfl, ⟨hn, hm, hd, hk, hn2, hm2, hd2, hk2⟩, rfl⟩
  case round =>
    clear hn hm hd hk hn2 hm2 hd2 hk2
    obtain ⟨n', d', m', k', rfl, rfl, rfl, rfl, he, ⟨hn, hm, hd, hk, hn2, hm2, hd2, hk2⟩, rfl⟩ := hrel
    have HF1 := hide (fun W => floor_c n' d' W hn hn2 hd hd2)
    have HF2 := hide (fun W => floor_c m' k' W hm hm2 hk hk2)
    obtain ⟨b1, b2, b3, b4⟩ := rest_bd hn hd
    obtain ⟨c1, c2, c3, c4⟩ := rest_bd hm hk
    have HE := hide he
    have HL := hide (fun h => cmpS_lt (n := n') (m := m') hd hk h)
    have HG := hide (fun h => cmpS_gt (n := n') (m := m') hd hk h)
    have HR := hide (fun h => cmpS_rest (n := n') (d := d') (m := m') (k := k') h)
    clear he
    by_cases h1 : n' / d' < m' / k'
    · have hw := HL.out h1
      rw [HE.out] at hw
      have HW := hide hw
      clear hw
      generalize n' / d' = p at HF1 h1
      generalize m' / k' = q at HF2 h1
      go_wp2_with (first | (go_at_call_of 102 (Value.int .i64 n'); refine (HF1.out _).mono ?_; rintro e_ w_ ⟨rfl, rfl⟩) | (go_at_call_of 102 (Value.int .i64 m'); refine (HF2.out _).mono ?_; rintro e_ w_ ⟨rfl, rfl⟩))
      go_ret
      exact ⟨by rw [HW.out]; rfl, rfl⟩
    · by_cases h2 : m' / k' < n' / d'
      · have hw := HG.out h2
        rw [HE.out] at hw
        have HW := hide hw
        clear hw
        generalize n' / d' = p at HF1 h1 h2
        generalize m' / k' = q at HF2 h1 h2
        go_wp2_with (first | (go_at_call_of 102 (Value.int .i64 n'); refine (HF1.out _).mono ?_; rintro e_ w_ ⟨rfl, rfl⟩) | (go_at_call_of 102 (Value.int .i64 m'); refine (HF2.out _).mono ?_; rintro e_ w_ ⟨rfl, rfl⟩))
        go_ret
        exact ⟨by rw [HW.out]; rfl, rfl⟩
      · have h3 : n' / d' = m' / k' := by omega
        have hw := HR.out h3
        rw [HE.out] at hw
        have e1 : IntKind.i64.wrap (n' / d' * d') = n' / d' * d' := by simp (disch := omega) only [IntWalk.i64_in]
        have e2 : IntKind.i64.wrap (m' / k' * k') = m' / k' * k' := by simp (disch := omega) only [IntWalk.i64_in]
        clear HL HG HR HE
        generalize n' / d' = p at HF1 h1 h2 h3 hw e1 b1 b2 b3 b4
        generalize m' / k' = q at HF2 h1 h2 h3 hw e2 c1 c2 c3 c4
        clear h3
        by_cases z1 : n' - p * d' = 0
        · have f1 : (n' - p * d' == 0) = true := by simpa using z1
          by_cases z2 : m' - q * k' = 0
          · have f2 : (m' - q * k' == 0) = true := by simpa using z2
            have HW : Hid (cmpS n d m k = 0) := by show _ = _; rw [hw, z1, z2]; unfold cmpS; simp
            clear hw z1 z2
            go_wp2_with (first | (go_at_call_of 102 (Value.int .i64 n'); refine (HF1.out _).mono ?_; rintro e_ w_ ⟨rfl, rfl⟩) | (go_at_call_of 102 (Value.int .i64 m'); refine (HF2.out _).mono ?_; rintro e_ w_ ⟨rfl, rfl⟩))
            go_ret
            exact ⟨by rw [HW.out]; rfl, rfl⟩
          · have f2 : (m' - q * k' == 0) = false := by simpa using z2
            have HW : Hid (cmpS n d m k = -1) := by
              show _ = _
              rw [hw, z1]; unfold cmpS
              have : 0 < (m' - q * k') * d' := Int.mul_pos (by omega) (by omega)
              rw [if_pos (by omega)]
            clear hw z1 z2
            go_wp2_with (first | (go_at_call_of 102 (Value.int .i64 n'); refine (HF1.out _).mono ?_; rintro e_ w_ ⟨rfl, rfl⟩) | (go_at_call_of 102 (Value.int .i64 m'); refine (HF2.out _).mono ?_; rintro e_ w_ ⟨rfl, rfl⟩))
            go_ret
            exact ⟨by rw [HW.out]; rfl, rfl⟩
        · have f1 : (n' - p * d' == 0) = false := by simpa using z1
          by_cases z2 : m' - q * k' = 0
          · have f2 : (m' - q * k' == 0) = true := by simpa using z2
            have HW : Hid (cmpS n d m k = 1) := by
              show _ = _
              rw [hw, z2]; unfold cmpS
              have : 0 < (n' - p * d') * k' := Int.mul_pos (by omega) (by omega)
              rw [if_neg (by omega), if_pos (by omega)]
            clear hw z1 z2
            go_wp2_with (first | (go_at_call_of 102 (Value.int .i64 n'); refine (HF1.out _).mono ?_; rintro e_ w_ ⟨rfl, rfl⟩) | (go_at_call_of 102 (Value.int .i64 m'); refine (HF2.out _).mono ?_; rintro e_ w_ ⟨rfl, rfl⟩))
            go_ret
            exact ⟨by rw [HW.out]; rfl, rfl⟩
          · have f2 : (m' - q * k' == 0) = false := by simpa using z2
            have HW : Hid (cmpS k' (m' - q * k') d' (n' - p * d') = cmpS n d m k) := by show _ = _; rw [hw, ← cmpS_turn]
            have B := hide (show (0 ≤ k' ∧ 0 ≤ d' ∧ 1 ≤ m' - q * k' ∧ 1 ≤ n' - p * d' ∧ k' ≤ 9223372036854775807 ∧ d' ≤ 9223372036854775807 ∧ m' - q * k' ≤ 9223372036854775807 ∧ n' - p * d' ≤ 9223372036854775807) ∧ m' - q * k' < k' ∧ n' - p * d' < d' by omega)
            clear hw z1 z2
            go_wp2_with (first | (go_at_call_of 102 (Value.int .i64 n'); refine (HF1.out _).mono ?_; rintro e_ w_ ⟨rfl, rfl⟩) | (go_at_call_of 102 (Value.int .i64 m'); refine (HF2.out _).mono ?_; rintro e_ w_ ⟨rfl, rfl⟩))
            go_roundw
            case rel => exact ⟨k', _, d', _, rfl, rfl, rfl, rfl, HW.out, B.out.1, trivial⟩
            case measure => have := B.out.2; simp [intOf]; omega
end Go.Proofs.YtdpcehlakhahiaaDoor
