/- Contracts: the check of any string; a number taken modulo another one. -/
import Derived.Test.YtnjdkdmfeonabaaE1
import Derived.Test.YtnjdkdmfeonabaaE85
import Derived.Laws.Strings
set_option linter.unusedSimpArgs false
set_option linter.unusedVariables false
set_option linter.unusedSimpArgs false
set_option linter.unusedVariables false
namespace Go.Proofs.Ytnjdkdmfeonabaa
open Go.RowKit
set_option maxRecDepth 100000

theorem xor_nat (a b : Nat) (ha : a < 9223372036854775808) (hb : b < 9223372036854775808) : bits .xor .i64 (a : Int) (b : Int) = ((a ^^^ b : Nat) : Int) := by
  have hx : a ^^^ b < 2 ^ 63 := Nat.xor_lt_two_pow (by omega) (by omega)
  have h1 : (BitVec.ofInt 64 (a : Int)).toNat = a := by
    rw [BitVec.ofInt_natCast, BitVec.toNat_ofNat]; exact Nat.mod_eq_of_lt (by omega)
  have h2 : (BitVec.ofInt 64 (b : Int)).toNat = b := by
    rw [BitVec.ofInt_natCast, BitVec.toNat_ofNat]; exact Nat.mod_eq_of_lt (by omega)
  show IntKind.i64.wrap ((BitVec.ofInt 64 (a : Int) ^^^ BitVec.ofInt 64 (b : Int)).toNat : Int) = _
  rw [BitVec.toNat_xor, h1, h2]
  simp (disch := omega) only [IntWalk.i64_in]
theorem step_big {c : Nat} (h : c < 65536) (h2 : 65535 < 2 * c) : bits .xor .i64 ((c : Int) * 2) 69665 = ((stepC c : Nat) : Int) := by
  have e : c.testBit 15 = true := by
    rw [Nat.testBit_eq_decide_div_mod_eq, show (2 : Nat) ^ 15 = 32768 from rfl]
    exact decide_eq_true (by omega)
  have h3 := xor_nat (2 * c) 69665 (by omega) (by omega)
  unfold stepC
  rw [e, if_pos rfl, ← h3]
  congr 1
  push_cast
  omega
theorem step_low {c : Nat} (h2 : ¬ 65535 < 2 * c) : (c : Int) * 2 = ((stepC c : Nat) : Int) := by
  rw [stepC_small (by omega)]
  omega

/-- The j-th byte of a list, as a number. -/
def byN (l : List UInt8) (j : Nat) : Nat := (l.getD j 0).toNat
theorem byN_lt (l : List UInt8) (j : Nat) : byN l j < 256 := (l.getD j 0).toNat_lt
theorem byN_at (s : ByteArray) (k : Nat) (h : k < s.size) : (s[k]'h).toNat = byN s.data.toList k := by
  unfold byN
  rw [List.getD, List.getElem?_eq_getElem (by simpa using h)]
  rfl
set_option maxHeartbeats 2000000 in
theorem checkOf_c (s : ByteArray) (w : World) (hs : s.size ≤ 3000) : Calls Try.prog 16 #[.string s] w fun r w' => r = .returned (.int .i64 ((crcN 65535 (byN s.data.toList) s.size : Nat) : Int)) ∧ w = w' := by
  have HL := hide (fun k => crcN_lt (c₀ := 65535) (d := byN s.data.toList) (by decide) (byN_lt _) k)
  go_enter Try.func16, Try.ntmps16
  go_wp2
  go_loop [3, 7] (fun c i => ∃ k : Nat, k ≤ s.size ∧ i = .int .i64 k ∧ c = .int .i64 ((crcN 65535 (byN s.data.toList) k : Nat) : Int)) (fun _ i => s.size - (intOf i).toNat)
  case atStart => exact ⟨0, Nat.zero_le _, rfl, rfl⟩
  case round =>
    obtain ⟨k, hk, rfl, rfl⟩ := hrel
    by_cases hlt : k < s.size
    · have hN : crcN 65535 (byN s.data.toList) (k + 1) = stepN 8 (crcN 65535 (byN s.data.toList) k ^^^ byN s.data.toList k * 256) := rfl
      have hC := HL.out k
      have hC1 := hide (HL.out (k + 1))
      have hb := byN_at s k hlt
      have hB := byN_lt s.data.toList k
      have hC2 : ∃ C1, crcN 65535 (byN s.data.toList) (k + 1) = C1 := ⟨_, rfl⟩
      obtain ⟨C1, hC2⟩ := hC2
      rw [hC2] at hN hC1
      have hC2 := hide hC2
      generalize crcN 65535 (byN s.data.toList) k = C at hN hC
      generalize byN s.data.toList k = b at hN hb hB
      have hx := xor_nat C (b * 256) (by omega) (by omega)
      rw [show ((b * 256 : Nat) : Int) = (b : Int) * 256 by push_cast; rfl] at hx
      have hv : C ^^^ b * 256 < 65536 := Nat.xor_lt_two_pow (n := 16) (by omega) (by omega)
      generalize C ^^^ b * 256 = v at hN hx hv
      have hN := hide hN
      go_wp2
      go_loop [3, 17] (fun c i => ∃ m : Nat, m ≤ 8 ∧ i = .int .i64 m ∧ c = .int .i64 ((stepN m v : Nat) : Int)) (fun _ i => 8 - (intOf i).toNat)
      case atStart => exact ⟨0, by omega, rfl, rfl⟩
      case round =>
        obtain ⟨m, hm, rfl, rfl⟩ := hrel
        by_cases hlm : m < 8
        · have hD := stepN_lt hv m
          have hD1 : stepN (m + 1) v = stepC (stepN m v) := rfl
          generalize stepN m v = D at hD hD1
          by_cases hbig : 65535 < 2 * D
          · have i1 : (65535 : Int) < (D : Int) * 2 := by omega
            have hy := step_big hD hbig
            have hD1 := hide hD1
            clear hx hbig
            go_wp2
            go_round
            case rel => exact ⟨m + 1, by omega, by go_num, by rw [hD1.out]⟩
            case measure => simp [intOf]; omega
          · have i1 : ¬ (65535 : Int) < (D : Int) * 2 := by omega
            have hy := hide (step_low hbig)
            have hD1 := hide hD1
            clear hx hbig
            go_wp2
            go_round
            case rel => exact ⟨m + 1, by omega, by go_num, by rw [hD1.out, ← hy.out]⟩
            case measure => simp [intOf]; omega
        · obtain rfl : m = 8 := by omega
          have hN := hN.out
          rw [← hN]
          clear hN hx hC hB hb hv
          go_wp2
          go_round
          case rel => exact ⟨k + 1, by omega, by go_num, by rw [hC2.out]⟩
          case measure => simp [intOf]; omega
    · obtain rfl : k = s.size := by omega
      go_wp2
      go_ret
      exact ⟨rfl, rfl⟩
end Go.Proofs.Ytnjdkdmfeonabaa
