/- Contracts: CheckOf of a string that is not too long; a number taken modulo another one. Bytes of an own slice, as numbers. -/
import Derived.Test.YtnjdkdmfeonabaaE14
import Derived.Test.YtnjdkdmfeonabaaE86
set_option linter.unusedSimpArgs false
set_option linter.unusedVariables false
set_option linter.unusedSimpArgs false
set_option linter.unusedVariables false
namespace Go.Proofs.Ytnjdkdmfeonabaa
open Go.RowKit
set_option maxRecDepth 100000

theorem checkOfS_c (s : ByteArray) (w : World) (hs : s.size ≤ 3000) : Calls Try.prog 6 #[.string s] w fun r w' => r = .returned (.tuple #[.int .i64 ((crcN 65535 (byN s.data.toList) s.size : Nat) : Int), .int .i64 0]) ∧ w = w' := by
  have HC := hide (fun W => checkOf_c s W hs)
  generalize crcN 65535 (byN s.data.toList) s.size = C at HC ⊢
  have i1 : ¬ (3000 : Int) < (s.size : Int) := by omega
  have hS : Hid (∀ W, Calls Try.prog 15 #[.string s] W fun r w' => r = .returned (.int .i64 0) ∧ W = w') := by
    intro W
    have e0 : decide ((3000 : Int) < (s.size : Int)) = false := decide_eq_false i1
    go_enter Try.func15, Try.ntmps15
    go_wp2_with (first | (go_at_call 26; refine (errorIf_c _ _ _).mono ?_; rintro e_ w_ ⟨rfl, rfl⟩))
    go_ret
    exact ⟨rfl, rfl⟩
  clear i1 hs
  go_enter Try.func6, Try.ntmps6
  go_wp2_with (first
    | (go_at_call 15; refine (hS.out _).mono ?_; rintro e_ w_ ⟨rfl, rfl⟩)
    | (go_at_call 16; refine (HC.out _).mono ?_; rintro e_ w_ ⟨rfl, rfl⟩))
  go_ret2
  exact ⟨rfl, rfl⟩

theorem mod_c (n by_ : Int) (w : World) (h1 : 1 ≤ by_) (h2 : by_ ≤ 1000000000) (h3 : -9223372036854775808 ≤ n) (h4 : n ≤ 9223372036854775807) :
    Calls Try.prog 5 #[.int .i64 n, .int .i64 by_] w fun r w' => r = .returned (.int .i64 (n % by_)) ∧ w = w' := by
  have e1 : (by_ == 0) = false := by simp; omega
  have e2 : (by_ == -1) = false := by simp; omega
  by_cases hn : 0 ≤ n
  · have hm0 : 0 ≤ n % by_ := Int.emod_nonneg _ (by omega)
    have hm1 : n % by_ < by_ := Int.emod_lt_of_pos _ (by omega)
    go_enter Try.func5, Try.ntmps5
    go_wp2
    go_ret
    exact ⟨rfl, rfl⟩
  · have hlo : -by_ < n.tmod by_ := Int.lt_tmod_of_pos n (by omega)
    have hhi : n.tmod by_ ≤ 0 := by
      have := Int.tmod_nonneg by_ (show 0 ≤ -n by omega)
      rw [Int.neg_tmod] at this; omega
    by_cases hz : n.tmod by_ = 0
    · have H : Hid (n % by_ = 0) := by
        show n % by_ = 0
        exact Int.emod_eq_zero_of_dvd (Int.dvd_of_tmod_eq_zero hz)
      go_enter Try.func5, Try.ntmps5
      go_wp2
      go_ret
      exact ⟨by rw [H.out]; rfl, rfl⟩
    · have H : Hid (n % by_ = n.tmod by_ + by_) := by
        show n % by_ = _
        have h5 := Int.emod_nonneg n (show by_ ≠ 0 by omega)
        have h6 := Int.emod_lt_of_pos n (show 0 < by_ by omega)
        have h7 := Int.mul_tdiv_add_tmod n by_
        have h8 := Int.mul_ediv_add_emod n by_
        have h9 : by_ * (n / by_) - by_ * (n.tdiv by_) = n.tmod by_ - n % by_ := by omega
        rw [← Int.mul_sub] at h9
        have h10 : n / by_ - n.tdiv by_ = -1 := by
          generalize n / by_ - n.tdiv by_ = q at h9
          rcases Int.lt_trichotomy q (-1) with h | h | h
          · have := Int.mul_le_mul_of_nonneg_left (show q ≤ -2 by omega) (show 0 ≤ by_ by omega); omega
          · exact h
          · have := Int.mul_le_mul_of_nonneg_left (show 0 ≤ q by omega) (show 0 ≤ by_ by omega); omega
        rw [h10] at h9
        omega
      have hneg : n.tmod by_ < 0 := by omega
      clear hz
      go_enter Try.func5, Try.ntmps5
      go_wp2
      go_ret
      exact ⟨by rw [H.out]; rfl, rfl⟩


/-- The bytes that a function gives, as cells. -/
def u8L (f : Nat → Nat) (n : Nat) : List Value := (List.range n).map fun j => Value.int .u8 ((f j : Nat) : Int)
theorem u8L_len (f : Nat → Nat) (n : Nat) : (u8L f n).length = n := by simp [u8L]
theorem u8L_succ (f : Nat → Nat) (n : Nat) : u8L f (n + 1) = u8L f n ++ [.int .u8 ((f n : Nat) : Int)] := by simp [u8L, List.range_succ]
theorem u8L_at (f : Nat → Nat) {n j : Nat} (h : j < n) : (u8L f n)[j]? = some (.int .u8 ((f j : Nat) : Int)) := by simp [u8L, h]
theorem u8L_set (f g : Nat → Nat) {n j : Nat} (h : ∀ i, i ≠ j → g i = f i) : (u8L f n).set j (.int .u8 ((g j : Nat) : Int)) = u8L g n := by
  apply List.ext_getElem
  · simp [u8L]
  · intro i h1 h2
    rw [List.getElem_set]
    simp only [u8L, List.getElem_map, List.getElem_range]
    by_cases e : j = i
    · subst e; rw [if_pos rfl]
    · rw [if_neg e, h i (fun x => e x.symm)]
theorem u8L_congr {f g : Nat → Nat} {n : Nat} (h : ∀ i, i < n → f i = g i) : u8L f n = u8L g n := by
  unfold u8L
  exact List.map_congr_left fun i hi => by rw [h i (List.mem_range.1 hi)]
/-- A bit of a number, as the statement looks at it. -/
theorem shr_and (p m : Nat) (hp : p < 65536) : bits .and .i64 ((p : Int) / 2 ^ m) 1 = ((p / 2 ^ m % 2 : Nat) : Int) := by
  have hq : p / 2 ^ m < 65536 := Nat.lt_of_le_of_lt (Nat.div_le_self _ _) hp
  have e : ((p : Int) / 2 ^ m) = ((p / 2 ^ m : Nat) : Int) := by push_cast; rfl
  rw [e]
  generalize p / 2 ^ m = q at hq
  have h1 : (BitVec.ofInt 64 (q : Int)).toNat = q := by
    rw [BitVec.ofInt_natCast, BitVec.toNat_ofNat]; exact Nat.mod_eq_of_lt (by omega)
  show IntKind.i64.wrap ((BitVec.ofInt 64 (q : Int) &&& BitVec.ofInt 64 1).toNat : Int) = _
  rw [BitVec.toNat_and, h1, show (BitVec.ofInt 64 1).toNat = 1 from rfl, Nat.and_one_is_mod]
  simp (disch := omega) only [IntWalk.i64_in]
theorem xor8_nat (a b : Nat) (ha : a < 256) (hb : b < 256) : bits .xor .u8 (a : Int) (b : Int) = ((a ^^^ b : Nat) : Int) := by
  have hx : a ^^^ b < 2 ^ 8 := Nat.xor_lt_two_pow (by omega) (by omega)
  have h1 : (BitVec.ofInt 8 (a : Int)).toNat = a := by
    rw [BitVec.ofInt_natCast, BitVec.toNat_ofNat]; exact Nat.mod_eq_of_lt (by omega)
  have h2 : (BitVec.ofInt 8 (b : Int)).toNat = b := by
    rw [BitVec.ofInt_natCast, BitVec.toNat_ofNat]; exact Nat.mod_eq_of_lt (by omega)
  show IntKind.u8.wrap ((BitVec.ofInt 8 (a : Int) ^^^ BitVec.ofInt 8 (b : Int)).toNat : Int) = _
  rw [BitVec.toNat_xor, h1, h2]
  have h3 : IntKind.u8.wrap ((a ^^^ b : Nat) : Int) = (((a ^^^ b : Nat) : Int)) % 256 := by simp [IntKind.wrap, IntKind.bits, IntKind.signed]
  rw [h3]
  omega
theorem errB_stay {a p m : Nat} (h : p.testBit m = false) (j : Nat) : errB a p (m + 1) j = errB a p m j := by
  show errB a p m j ^^^ (if p.testBit m = true ∧ (a + m) / 8 = j then 128 / 2 ^ ((a + m) % 8) else 0) = _
  rw [if_neg (by rw [h]; simp), Nat.xor_zero]
theorem errB_other {a p m j : Nat} (h : j ≠ (a + m) / 8) : errB a p (m + 1) j = errB a p m j := by
  show errB a p m j ^^^ (if p.testBit m = true ∧ (a + m) / 8 = j then 128 / 2 ^ ((a + m) % 8) else 0) = _
  rw [if_neg (fun x => h x.2.symm), Nat.xor_zero]
theorem errB_here {a p m : Nat} (h : p.testBit m = true) : errB a p (m + 1) ((a + m) / 8) = errB a p m ((a + m) / 8) ^^^ 128 / 2 ^ ((a + m) % 8) := by
  show errB a p m _ ^^^ (if p.testBit m = true ∧ (a + m) / 8 = (a + m) / 8 then 128 / 2 ^ ((a + m) % 8) else 0) = _
  rw [if_pos ⟨h, rfl⟩]
/-- One bit more is changed: the cells behind it. -/
theorem u8L_bit {f : Nat → Nat} {a p m n B j t : Nat} (h : p.testBit m = true) (hB : a + m = B) (hj : B / 8 = j) (ht : B % 8 = t) :
    (u8L (fun i => f i ^^^ errB a p m i) n).set j (.int .u8 (((f j ^^^ errB a p m j) ^^^ 128 / 2 ^ t : Nat) : Int)) = u8L (fun i => f i ^^^ errB a p (m + 1) i) n := by
  subst hB hj ht
  have e := u8L_set (n := n) (j := (a + m) / 8) (fun i => f i ^^^ errB a p m i) (fun i => f i ^^^ errB a p (m + 1) i) (fun i hi => by show _ ^^^ _ = _ ^^^ _; rw [errB_other hi])
  rw [← e]
  show List.set _ _ _ = List.set _ _ (Value.int .u8 (((f ((a + m) / 8)) ^^^ errB a p (m + 1) ((a + m) / 8) : Nat) : Int))
  rw [errB_here h, Nat.xor_assoc]
theorem own_some8 {w : World} {base : Nat} {e : TypeId} {size n : Nat} {v : Value} {xs : List Value} (h : w.ownsRow base e size v n xs) (h1 : 1 ≤ n) : ∃ g cap, v = .slice (some ⟨g, 0, none⟩) n cap ∧ base ≤ g ∧ g < w.heap.size := by
  rcases h.2 with ⟨rfl, rfl⟩ | ⟨g, cap, cur, rfl, hb, hg, _⟩
  · omega
  · exact ⟨g, cap, rfl, hb, (Array.getElem?_eq_some_iff.1 hg).1⟩
theorem Try.infoB : (Try.prog.info? 5).map (fun i => (i.zero, i.size, i.bytes)) = some (some (.int .u8 0), 1, 1) := by kernel_rfl
theorem Try.cellsB : Try.prog.cellsOf 5 = 1 := by kernel_rfl
end Go.Proofs.Ytnjdkdmfeonabaa
