/- Contracts: roots; legs. -/
import Derived.Test.YtkcjiejdjdcbeaaRy7
import Derived.Test.YtkcjiejdjdcbeaaFM
import Derived.Test.YtkcjiejdjdcbeaaRyR
set_option linter.unusedSimpArgs false
set_option linter.unusedVariables false
set_option linter.unusedSimpArgs false
set_option linter.unusedVariables false
namespace Go.Proofs.Ytkcjiejdjdcbeaa
open Go.RowKit
set_option maxRecDepth 100000


theorem mul_bd {a b A B : Int} (h0 : 0 ≤ a) (h1 : a ≤ A) (k0 : 0 ≤ b) (k1 : b ≤ B) : 0 ≤ a * b ∧ a * b ≤ A * B :=
  ⟨Int.mul_nonneg h0 k0, Int.mul_le_mul h1 k1 k0 (by omega)⟩
/-- The least number for which a growing test holds, or n. -/
def IsLeast (n : Nat) (p : Nat → Bool) (i : Nat) : Prop := i ≤ n ∧ (∀ j, j < i → p j = false) ∧ (i < n → p i = true)
theorem search_c (n : Nat) (hn : n ≤ 4000000000) (f : FuncId) (cap : Array Value) (p : Nat → Bool) (w : World) (hE : ∀ (args : Array Value) (W : World), (callFunc f args).run Try.prog W = .ok (.enter f args) W)
    (hmono : ∀ a b, a ≤ b → b < n → p a = true → p b = true)
    (hchk : ∀ k, k < n → ∀ W : World, Below w.heap.size w W → Calls Try.prog f (#[.int .i64 (k : Nat)] ++ cap) W fun r W' => r = .returned (.bool (p k)) ∧ Below W.heap.size W W') :
    Calls Try.prog 150 #[.int .i64 n, .func (.func f) #[] cap] w fun r w' => (∃ i : Nat, r = .returned (.int .i64 i) ∧ IsLeast n p i) ∧ Below w.heap.size w w' := by
  have HC := hide hchk
  have HM := hide hmono
  clear hchk hmono
  go_enter Try.func150, Try.ntmps150
  go_wp2
  go_loopw [5, 6] (fun i j wr => ∃ a b : Nat, a ≤ b ∧ b ≤ n ∧ i = .int .i64 a ∧ j = .int .i64 b ∧ Below w.heap.size w wr ∧ Hid (∀ k, k < a → p k = false) ∧ Hid (b < n → p b = true)) (fun i j _ => (intOf j).toNat - (intOf i).toNat)
  case atStart => exact ⟨0, n, Nat.zero_le _, Nat.le_refl _, rfl, rfl, Below.refl _ _, fun _ h => by omega, fun h => by omega⟩
  case round =>
    obtain ⟨a, b, hab, hbn, rfl, rfl, hb, h0, h1⟩ := hrel
    by_cases hlt : a < b
    · obtain ⟨h, hh⟩ : ∃ h : Nat, (a + b) / 2 = h := ⟨_, rfl⟩
      have h2 : a ≤ h := by omega
      have h3 : h < b := by omega
      have hI : ((a : Int) + b) / 2 = (h : Int) := by omega
      have H0 := hide h0.out
      clear hh
      go_upto_region 4 with fail
      clear hI
      by_cases hp : p h = true
      · have HA := hide ((HC.out h (by omega) wr hb).mono (R' := fun r W' => r = .returned (.bool true) ∧ Below wr.heap.size wr W') fun _ _ ⟨x, y⟩ => ⟨by rw [x, hp], y⟩)
        have HP : Hid (h < n → p h = true) := fun _ => hp
        clear hp
        go_wp2_with (refine HA.out.mono ?_; rintro e w1 ⟨rfl, hb1⟩)
        go_roundw
        case rel => exact ⟨a, h, h2, by omega, rfl, rfl, tr hb hb1 hb.size, H0, HP⟩
        case measure => simp [intOf]; omega
      · have hp' : p h = false := by simpa using hp
        have HA := hide ((HC.out h (by omega) wr hb).mono (R' := fun r W' => r = .returned (.bool false) ∧ Below wr.heap.size wr W') fun _ _ ⟨x, y⟩ => ⟨by rw [x, hp'], y⟩)
        have HP : Hid (∀ k, k < h + 1 → p k = false) := fun k hk => by
          cases hx : p k with
          | false => rfl
          | true => exact absurd (HM.out k h (by omega) (by omega) hx) hp
        clear hp hp'
        go_wp2_with (refine HA.out.mono ?_; rintro e w1 ⟨rfl, hb1⟩)
        go_roundw
        case rel => exact ⟨h + 1, b, by omega, hbn, by go_num, rfl, tr hb hb1 hb.size, HP, h1⟩
        case measure => simp [intOf]; omega
    · obtain rfl : a = b := by omega
      go_wp2
      go_ret
      exact ⟨⟨a, rfl, hbn, h0.out, h1.out⟩, hb⟩

theorem root_c (n : Nat) (hn : n ≤ 1152921504606846976) (w : World) : Calls Try.prog 101 #[.int .i64 n] w fun r w' => r = .returned (.int .i64 (rootN n)) ∧ w = w' := by
  go_enter Try.func101, Try.ntmps101
  go_wp2
  go_loop [3, 4] (fun r b => ∃ m k : Nat, k ≤ 31 ∧ r = .int .i64 m ∧ b = .int .i64 (bitN k) ∧ Hid (RootAt n m k)) (fun _ b => (intOf b).toNat)
  case atStart => exact ⟨0, 31, Nat.le_refl _, rfl, rfl, RootAt.start hn⟩
  case round =>
    obtain ⟨m, k, hk, rfl, rfl, hR⟩ := hrel
    rcases Nat.eq_zero_or_pos k with rfl | hkp
    · have HD := hide hR.out.done
      rw [show ((bitN 0 : Nat) : Int) = 0 from rfl]
      go_wp2
      go_ret
      exact ⟨ret_int (by rw [HD.out]), rfl⟩
    · obtain ⟨k, rfl⟩ : ∃ j, k = j + 1 := ⟨k - 1, by omega⟩
      have hbd := hR.out.bd
      have hhalf := bitN_half k
      have hb1 : 1 ≤ bitN (k + 1) := Nat.two_pow_pos k
      have HY := hide (fun h => hR.out.yes h)
      have HN := hide (fun h => hR.out.no h)
      rw [show (2 : Nat) ^ k = bitN (k + 1) from rfl] at HY HN
      clear hR
      generalize bitN (k + 1) = b at hbd hhalf hb1 HY HN
      have hbh : (b : Int) / 2 = ((bitN k : Nat) : Int) := by omega
      have HH := hide hhalf
      clear hhalf
      have hbk : bitN k < b := by omega
      have hsq : ((m : Int) + b) * ((m : Int) + b) ≤ 2147483648 * 2147483648 := Int.mul_le_mul (by omega) (by omega) (by omega) (by omega)
      have hs0 : 0 ≤ ((m : Int) + b) * ((m : Int) + b) := Int.mul_nonneg (by omega) (by omega)
      have hcast : (((m + b) * (m + b) : Nat) : Int) = ((m : Int) + b) * ((m : Int) + b) := by rw [Int.natCast_mul]; simp
      by_cases hc : (m + b) * (m + b) ≤ n
      · have e1 : decide (((m : Int) + b) * ((m : Int) + b) ≤ (n : Int)) = true := decide_eq_true (by omega)
        have H1 := hide (HY.out hc)
        clear hc hcast
        go_wp2
        go_round
        case rel => exact ⟨m + b, k, by omega, by go_num, rfl, H1.out⟩
        case measure => simp [intOf]; omega
      · have e1 : decide (((m : Int) + b) * ((m : Int) + b) ≤ (n : Int)) = false := decide_eq_false (by omega)
        have H1 := hide (HN.out hc)
        clear hc hcast
        go_wp2
        go_round
        case rel => exact ⟨m, k, by omega, rfl, rfl, H1.out⟩
        case measure => simp [intOf]; omega


theorem least_root {n : Int} {i : Nat} (h0 : 0 ≤ n) (h1 : n ≤ 4611686018427387903) (h : IsLeast 2147483648 (fun m => decide (n < ((m : Int) + 1) * ((m : Int) + 1))) i) : i = rootN n.toNat := by
  obtain ⟨a, b, c⟩ := h
  have e1 : n < ((i : Int) + 1) * ((i : Int) + 1) := by
    rcases Nat.lt_or_ge i 2147483648 with hi | hi
    · simpa using c hi
    · have : i = 2147483648 := by omega
      subst this
      omega
  have e2 : (i : Int) * i ≤ n := by
    cases i with
    | zero => simpa using h0
    | succ k =>
      have := b k (by omega)
      simp only [decide_eq_false_iff_not, Int.not_lt] at this
      push_cast
      exact this
  have f1 : i * i ≤ n.toNat := by
    have : ((i * i : Nat) : Int) ≤ n := by push_cast; exact e2
    omega
  have f2 : n.toNat < (i + 1) * (i + 1) := by
    have : n < (((i + 1) * (i + 1) : Nat) : Int) := by push_cast; exact e1
    omega
  exact (rootN_eq f1 f2).symm
theorem rootBelow1_c (n : Int) (m B : Nat) (w : World) (hX : w.cell? ⟨B, 0, none⟩ = some (.int .i64 n)) (hm : m < 2147483648) :
    Calls Try.prog 151 (#[.int .i64 (m : Int)] ++ #[.pointer (some ⟨B, 0, none⟩)]) w fun r w' => r = .returned (.bool (decide (n < ((m : Int) + 1) * ((m : Int) + 1)))) ∧ Below w.heap.size w w' := by
  rw [show (#[.int .i64 (m : Int)] ++ #[.pointer (some ⟨B, 0, none⟩)] : Array Value) = #[.int .i64 (m : Int), .pointer (some ⟨B, 0, none⟩)] from rfl]
  have hmm := mul_bd (show 0 ≤ (m : Int) + 1 by omega) (show (m : Int) + 1 ≤ 2147483648 by omega) (show 0 ≤ (m : Int) + 1 by omega) (show (m : Int) + 1 ≤ 2147483648 by omega)
  go_enter Try.func151, Try.ntmps151
  go_wp2
  go_ret
  exact ⟨rfl, Below.refl _ _⟩
theorem rootBelow_c (n : Int) (w : World) (h0 : 0 ≤ n) (h1 : n ≤ 4611686018427387903) :
    Calls Try.prog 96 #[.int .i64 n] w fun r w' => r = .returned (.int .i64 (rootN n.toNat : Int)) ∧ Below w.heap.size w w' := by
  obtain ⟨W, hW⟩ : ∃ W, w.alloc (.cells #[.int .i64 n] 3) = W := ⟨_, rfl⟩
  have hX : Blk W w.heap.size 3 [.int .i64 n] := by rw [← hW]; exact Blk.new w _ [_]
  have hB0 : Below w.heap.size w W := by rw [← hW]; exact alloc_bel _ _
  have HS := hide (search_c 2147483648 (by omega) 151 #[.pointer (some ⟨w.heap.size, 0, none⟩)] (fun m => decide (n < ((m : Int) + 1) * ((m : Int) + 1))) W Try.call151 (fun a b hab _ ha => by
      have h3 := Int.mul_le_mul (show (a : Int) + 1 ≤ (b : Int) + 1 by omega) (show (a : Int) + 1 ≤ (b : Int) + 1 by omega) (by omega) (by omega)
      simp only [decide_eq_true_eq] at ha ⊢
      omega)
    (fun k hk W' hb => rootBelow1_c n k w.heap.size W' ((hX.bel hb).cell 0) hk))
  have HL := hide (fun i (h : IsLeast 2147483648 (fun m => decide (n < ((m : Int) + 1) * ((m : Int) + 1))) i) => least_root h0 h1 h)
  have HW := hide hW
  clear hW
  go_enter Try.func96, Try.ntmps96
  go_upto_region 1 with fail
  rw [HW.out]
  go_wp2_with (go_at_call 150; refine (HS.out).mono ?_; rintro e_ w1 ⟨⟨i, rfl, hi⟩, hb1⟩)
  go_ret
  exact ⟨ret_int (by rw [HL.out i hi]), bel_tr hB0 hB0.size hb1⟩
end Go.Proofs.Ytkcjiejdjdcbeaa
