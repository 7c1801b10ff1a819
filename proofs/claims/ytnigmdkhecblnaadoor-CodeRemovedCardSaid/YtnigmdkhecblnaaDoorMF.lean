/- A group of texts (tools/groups.txt): W23 W24 W25 W26 MathA R1 W28 R2 R3. No condition but those that each says. -/
import Derived.Test.YtnigmdkhecblnaaDoorME
import Derived.Test.YtnigmdkhecblnaaDoorMB
import Derived.Test.YtnigmdkhecblnaaDoorMC
import Derived.Deep.DeepCutAuto
import Derived.Maps.AppendAt
import Derived.Deep.AppendLies
set_option linter.unusedSimpArgs false
set_option linter.unusedVariables false
/- Contracts: a correlation that is asked for. -/
namespace Go.Proofs.YtnigmdkhecblnaaDoor
open Go.RowKit
set_option maxRecDepth 100000

/-- The error of a correlation. -/
def corrE (a b : List Int) (lag : Int) : Int := firstE [codeE a, codeE b, errIf ((a.length : Int) != (b.length : Int)) 10, errIf (outB lag (1 - (a.length : Int)) ((a.length : Int) - 1)) 2]

theorem firstE_zero : ∀ {l : List Int}, firstE l = 0 → ∀ e ∈ l, e = 0
  | [], _, e, h => absurd h (by simp)
  | e :: l, h, x, hx => by
    unfold firstE at h
    by_cases he : e = 0
    · rw [if_pos he] at h
      rcases List.mem_cons.1 hx with rfl | hx
      · exact he
      · exact firstE_zero h x hx
    · rw [if_neg he] at h; exact absurd h he
theorem errIf_zero {b : Bool} {e : Int} (he : e ≠ 0) (h : errIf b e = 0) : b = false := by
  cases b
  · rfl
  · exact absurd h he
theorem corrE_zero {a b : List Int} {lag : Int} (h : corrE a b lag = 0) : codeE a = 0 ∧ codeE b = 0 ∧ a.length = b.length ∧ 1 - (a.length : Int) ≤ lag ∧ lag ≤ (a.length : Int) - 1 := by
  have h0 := firstE_zero h
  have h1 := errIf_zero (by decide) (h0 (errIf ((a.length : Int) != (b.length : Int)) 10) (by simp))
  have h2 := outB_false.1 (errIf_zero (by decide) (h0 (errIf (outB lag (1 - (a.length : Int)) ((a.length : Int) - 1)) 2) (by simp)))
  refine ⟨h0 _ (by simp), h0 (codeE b) (by simp), ?_, h2.1, h2.2⟩
  have : (a.length : Int) = (b.length : Int) := by simpa using h1
  omega

end Go.Proofs.YtnigmdkhecblnaaDoor

/- Contracts: side lobes. -/
namespace Go.Proofs.YtnigmdkhecblnaaDoor
open Go.RowKit
set_option maxRecDepth 100000

/-- The greatest size of the correlations at the lags from 1 to k. -/
def sideTo (c : List Int) : Nat → Int
  | 0 => 0
  | k + 1 => if (if sideTo c k < corrN c c (k + 1) then corrN c c (k + 1) else sideTo c k) < -(corrN c c (k + 1)) then -(corrN c c (k + 1)) else if sideTo c k < corrN c c (k + 1) then corrN c c (k + 1) else sideTo c k

theorem sideTo_succ (c : List Int) (k : Nat) (hk : 1 ≤ k) : sideTo c k = if (if sideTo c (k - 1) < corrN c c k then corrN c c k else sideTo c (k - 1)) < -(corrN c c k) then -(corrN c c k) else if sideTo c (k - 1) < corrN c c k then corrN c c k else sideTo c (k - 1) := by
  obtain ⟨j, rfl⟩ : ∃ j, k = j + 1 := ⟨k - 1, by omega⟩
  rfl

end Go.Proofs.YtnigmdkhecblnaaDoor

/- Contracts: the wave of a code. -/
namespace Go.Proofs.YtnigmdkhecblnaaDoor
open Go.RowKit
set_option maxRecDepth 100000

def reL (l : List Int) : List (Int × Int) := l.map fun n => (n, 0)

end Go.Proofs.YtnigmdkhecblnaaDoor

/- Contracts: a chirp at a tick. -/
namespace Go.Proofs.YtnigmdkhecblnaaDoor
open Go.RowKit
set_option maxRecDepth 100000

end Go.Proofs.YtnigmdkhecblnaaDoor

/- The reference's correlation and side lobe are those of the program: plain sums. No condition but equal lengths. -/
namespace Go.Proofs.YtnigmdkhecblnaaDoor
open Go.RowKit

/-- The reference's sum over the first numbers of b. -/
def corrRTo (a b : List Int) (lag : Int) : Nat → Int
  | 0 => 0
  | i + 1 => if outB ((i : Int) + lag) 0 ((a.length : Int) - 1) = false then corrRTo a b lag i + a.getD ((i : Int) + lag).toNat 0 * b.getD i 0 else corrRTo a b lag i

theorem getD_out {l : List Int} {k : Nat} (h : l.length ≤ k) : l.getD k 0 = 0 := by simp [List.getD, h]

theorem corrRTo_nat (a b : List Int) (m k : Nat) : corrRTo a b m k = corrTo a b m k := by
  induction k with
  | zero => rfl
  | succ k ih =>
    simp only [corrRTo, corrTo, ih]
    split
    · rename_i h
      rw [show ((k : Int) + (m : Int)).toNat = k + m from by omega]
    · rename_i h
      have h2 : ¬ ((0 : Int) ≤ (k : Int) + m ∧ (k : Int) + m ≤ (a.length : Int) - 1) := fun h3 => h (outB_false.2 h3)
      rw [getD_out (l := a) (by omega)]
      omega
theorem corrTo_past (a b : List Int) (m j : Nat) : corrTo a b m (a.length - m + j) = corrTo a b m (a.length - m) := by
  induction j with
  | zero => rfl
  | succ j ih =>
    rw [← Nat.add_assoc]
    simp only [corrTo]
    rw [ih, getD_out (l := a) (by omega)]
    omega
theorem corrRTo_low (a b : List Int) (m k : Nat) (h : k ≤ m) : corrRTo a b (-(m : Int)) k = 0 := by
  induction k with
  | zero => rfl
  | succ k ih =>
    have h1 : outB ((k : Int) + -(m : Int)) 0 ((a.length : Int) - 1) = true := outB_true.2 (.inl (by omega))
    simp only [corrRTo, h1]
    exact ih (by omega)
theorem corrRTo_neg (a b : List Int) (m j : Nat) (h : m + j ≤ b.length) (hab : a.length = b.length) : corrRTo a b (-(m : Int)) (m + j) = corrTo b a m j := by
  induction j with
  | zero => exact corrRTo_low a b m m (Nat.le_refl _)
  | succ j ih =>
    have h1 : outB (((m + j : Nat) : Int) + -(m : Int)) 0 ((a.length : Int) - 1) = false := outB_false.2 ⟨by omega, by omega⟩
    rw [← Nat.add_assoc]
    simp only [corrRTo, corrTo]
    rw [if_pos h1, ih (by omega), show (((m + j : Nat) : Int) + -(m : Int)).toNat = j from by omega, Nat.add_comm m j, Int.mul_comm]
theorem corrRTo_eq (a b : List Int) (lag : Int) (hab : a.length = b.length) (h1 : -(a.length : Int) ≤ lag) (h2 : lag ≤ a.length) : corrRTo a b lag b.length = corr a b lag := by
  unfold corr
  by_cases hn : lag < 0
  · obtain ⟨m, rfl⟩ : ∃ m : Nat, lag = -(m : Int) := ⟨(-lag).toNat, by omega⟩
    rw [if_pos hn, Int.neg_neg, Int.toNat_natCast]
    have h := corrRTo_neg a b m (b.length - m) (by omega) hab
    rw [show m + (b.length - m) = b.length from by omega] at h
    rw [h]; rfl
  · obtain ⟨m, rfl⟩ : ∃ m : Nat, lag = (m : Int) := ⟨lag.toNat, by omega⟩
    rw [if_neg hn, Int.toNat_natCast, corrRTo_nat]
    have h := corrTo_past a b m m
    rw [show a.length - m + m = b.length from by omega] at h
    rw [h]; rfl
theorem corrRTo_bd {a b : List Int} (ha : Small a) (hb : Small b) (lag : Int) (k : Nat) : -(k : Int) ≤ corrRTo a b lag k ∧ corrRTo a b lag k ≤ k := by
  induction k with
  | zero => simp [corrRTo]
  | succ k ih =>
    simp only [corrRTo]
    split
    · have h1 := ha.at_ ((k : Int) + lag).toNat
      have h2 := hb.at_ k
      have h3 := small_mul h1.1 h1.2 h2.1 h2.2
      omega
    · omega
end Go.Proofs.YtnigmdkhecblnaaDoor

/- Contracts: helpers of the statements and the references (lengths, sizes, checked codes). -/
namespace Go.Proofs.YtnigmdkhecblnaaDoor
open Go.RowKit
set_option maxRecDepth 100000

theorem size_c (n : Int) (w : World) (h1 : -9223372036854775807 ≤ n) (h2 : n ≤ 9223372036854775807) : Calls Tryd.prog 54 #[.int .i64 n] w fun r w' => r = .returned (.int .i64 (if n < -n then -n else n)) ∧ w = w' := by
  by_cases h : n < -n
  · rw [if_pos h]
    go_enter Tryd.func54, Tryd.ntmps54
    go_wp2
    go_ret
    exact ⟨rfl, rfl⟩
  · rw [if_neg h]
    have h' : -n ≤ n := by omega
    go_enter Tryd.func54, Tryd.ntmps54
    go_wp2
    go_ret
    exact ⟨rfl, rfl⟩

end Go.Proofs.YtnigmdkhecblnaaDoor

/- Contracts: the ticks at which a chirp rises. -/
namespace Go.Proofs.YtnigmdkhecblnaaDoor
open Go.RowKit
set_option maxRecDepth 100000

/-- The ticks below k at which a chirp rises. -/
def risesL (s n d : Int) : Nat → List Int
  | 0 => []
  | k + 1 => if 1 ≤ k ∧ freq s n d ((k : Int) - 1) < freq s n d k then risesL s n d k ++ [(k : Int)] else risesL s n d k
theorem risesL_le (s n d : Int) (k : Nat) : (risesL s n d k).length ≤ k := by
  induction k with
  | zero => simp [risesL]
  | succ k ih =>
    simp only [risesL]
    split
    · simp; omega
    · omega
theorem risesL_one (s n d : Int) : risesL s n d 1 = [] := by simp [risesL]
theorem risesL_cap (s n d : Int) (count k : Nat) (h1 : 1 ≤ k) (h2 : count ≤ k) (h3 : k ≤ max count 1) : risesL s n d k = risesL s n d count := by
  rcases Nat.lt_or_ge count 1 with h | h
  · obtain rfl : k = 1 := by omega
    obtain rfl : count = 0 := by omega
    simp [risesL]
  · obtain rfl : k = count := by omega
    rfl

theorem below_own {w w' : World} {B : Nat} {row : Option Nat} (hg : w.grownBy w' row) (hB : B ≤ w.heap.size) (hr : ∀ k, row = some k → B ≤ k) : Below B w w' := (Below.refl _ _).grown hg hB hr

end Go.Proofs.YtnigmdkhecblnaaDoor

/- Contracts: copies of lists, the reference's chirps, powers of i, the wave of a code as the reference makes it. -/
namespace Go.Proofs.YtnigmdkhecblnaaDoor
open Go.RowKit
set_option maxRecDepth 100000

theorem copyInts_c (l : List Int) (A : Option Addr) (c : Nat) (w : World) (hr : Rd w A (ints l)) (hl : l.length ≤ 100000) :
    Calls Tryd.prog 10 #[.slice A l.length c] w fun r w' => (∃ A' c', r = .returned (.slice A' l.length c') ∧ RdT w' 3 A' (ints l)) ∧ Below w.heap.size w w' := by
  obtain ⟨i0, hi, iz0, iz1, iz2⟩ := info_parts Tryd.info3
  go_enter Tryd.func10, Tryd.ntmps10
  go_wp2_with (first | (at_builtin; refine wpList_append_rd _ rfl _ _ 23 rfl w.heap.size 3 i0 (.int .i64 0) 1 8 Tryd.underlying23 hi iz0 iz1 iz2 rfl (by decide) (.slice (some ⟨w.heap.size, 0, none⟩) 0 0) 0 [] rfl (World.ownsRow_made w #[] 0 (Nat.le_refl _) (by unfold maxLen; omega) rfl) A l.length c (ints l) rfl (by simp) (hr.alloc _) (ints_one l) (by unfold maxLen; omega) (by omega) (by simp) ?_; intro v' w1 hown1 hg1))
  obtain ⟨A', c', rfl⟩ := ownsRow_slice hown1
  have hb : Below w.heap.size w w1 := ((Below.refl _ _).alloc (Nat.le_refl _) (.cells #[] 3)).grown hg1 (by simp) (by simp [Value.ownBlock])
  go_ret
  exact ⟨⟨A', c', by rw [Nat.zero_add]; rfl, by simpa using RdT.of_own hown1⟩, hb⟩

theorem copyGausses_c (l : List (Int × Int)) (A : Option Addr) (c : Nat) (w : World) (hr : Rd w A (gs l)) (hl : l.length ≤ 100000) :
    Calls Tryd.prog 28 #[.slice A l.length c] w fun r w' => (∃ A' c', r = .returned (.slice A' l.length c') ∧ RdT w' 47 A' (gs l)) ∧ Below w.heap.size w w' := by
  obtain ⟨i0, hi, iz0, iz1, iz2⟩ := info_parts Tryd.info76
  go_enter Tryd.func28, Tryd.ntmps28
  go_wp2_with (first | (at_builtin; refine wpList_append_rd _ rfl _ _ 22 rfl w.heap.size 47 i0 _ 2 16 Tryd.underlying22 hi iz0 iz1 iz2 rfl (by decide) (.slice (some ⟨w.heap.size, 0, none⟩) 0 0) 0 [] rfl (World.ownsRow_made w #[] 0 (Nat.le_refl _) (by unfold maxLen; omega) rfl) A l.length c (gs l) rfl (by simp) (hr.alloc _) (gs_one l) (by unfold maxLen; omega) (by omega) (by simp) ?_; intro v' w1 hown1 hg1))
  obtain ⟨A', c', rfl⟩ := ownsRow_slice hown1
  have hb : Below w.heap.size w w1 := ((Below.refl _ _).alloc (Nat.le_refl _) (.cells #[] 47)).grown hg1 (by simp) (by simp [Value.ownBlock])
  go_ret
  exact ⟨⟨A', c', by rw [Nat.zero_add]; rfl, by simpa using RdT.of_own hown1⟩, hb⟩

theorem mod_c (n by_ : Int) (w : World) (h1 : 1 ≤ by_) (h2 : by_ ≤ 1000000000) (h3 : -4611686018427387904 ≤ n) (h4 : n ≤ 4611686018427387904) :
    Calls Tryd.prog 24 #[.int .i64 n, .int .i64 by_] w fun r w' => r = .returned (.int .i64 (n % by_)) ∧ w = w' := by
  have e1 : (by_ == 0) = false := by simp; omega
  have e2 : (by_ == -1) = false := by simp; omega
  by_cases hn : 0 ≤ n
  · have hm0 : 0 ≤ n % by_ := Int.emod_nonneg _ (by omega)
    have hm1 : n % by_ < by_ := Int.emod_lt_of_pos _ (by omega)
    go_enter Tryd.func24, Tryd.ntmps24
    go_wp2
    go_ret
    exact ⟨rfl, rfl⟩
  · have hlo : -by_ < n.tmod by_ := Int.lt_tmod_of_pos n (by omega)
    have hhi : n.tmod by_ ≤ 0 := by
      have := Int.tmod_nonneg by_ (show 0 ≤ -n by omega)
      rw [Int.neg_tmod] at this; omega
    by_cases hz : n.tmod by_ = 0
    · have H : Hid (n % by_ = 0) := by
        show n % by_ = 0
        exact Int.emod_eq_zero_of_dvd (Int.dvd_of_tmod_eq_zero hz)
      go_enter Tryd.func24, Tryd.ntmps24
      go_wp2
      go_ret
      exact ⟨by rw [H.out]; rfl, rfl⟩
    · have H : Hid (n % by_ = n.tmod by_ + by_) := by
        show n % by_ = _
        have h5 := Int.emod_nonneg n (show by_ ≠ 0 by omega)
        have h6 := Int.emod_lt_of_pos n (show 0 < by_ by omega)
        have h7 := Int.mul_tdiv_add_tmod n by_
        have h8 := Int.mul_ediv_add_emod n by_
        have h9 : by_ * (n / by_) - by_ * (n.tdiv by_) = n.tmod by_ - n % by_ := by omega
        rw [← Int.mul_sub] at h9
        have h10 : n / by_ - n.tdiv by_ = -1 := by
          generalize n / by_ - n.tdiv by_ = q at h9
          rcases Int.lt_trichotomy q (-1) with h | h | h
          · have := Int.mul_le_mul_of_nonneg_left (show q ≤ -2 by omega) (show 0 ≤ by_ by omega); omega
          · exact h
          · have := Int.mul_le_mul_of_nonneg_left (show 0 ≤ q by omega) (show 0 ≤ by_ by omega); omega
        rw [h10] at h9
        omega
      have hneg : n.tmod by_ < 0 := by omega
      clear hz
      go_enter Tryd.func24, Tryd.ntmps24
      go_wp2
      go_ret
      exact ⟨by rw [H.out]; rfl, rfl⟩

theorem refTurn_c (n : Int) (w : World) (h3 : -4611686018427387904 ≤ n) (h4 : n ≤ 4611686018427387904) :
    Calls Tryd.prog 27 #[.int .i64 n] w fun r w' => r = .returned (.agg #[.int .i64 (turnG (n % 4).toNat).1, .int .i64 (turnG (n % 4).toNat).2]) ∧ Below w.heap.size w w' := by
  have HM : ∀ W, Calls Tryd.prog 24 #[.int .i64 n, .int .i64 4] W fun r w' => r = .returned (.int .i64 (n % 4)) ∧ W = w' := fun W => mod_c n 4 W (by omega) (by omega) h3 h4
  have hc : n % 4 = 0 ∨ n % 4 = 1 ∨ n % 4 = 2 ∨ n % 4 = 3 := by omega
  rcases hc with h | h | h | h <;> (
    rw [h] at HM ⊢
    have HMH := hide HM
    clear HM h h3 h4
    go_enter Tryd.func27, Tryd.ntmps27
    go_wp2_with (first | (go_at_call 24; refine (HMH.out _).mono ?_; rintro e w_ ⟨rfl, rfl⟩))
    refine bodyPost_ret (by simp [results, Tryd.results27, go_sem]; try rfl) rfl ?_
    refine ⟨rfl, ?_⟩
    exact ((Below.refl _ _).alloc (Nat.le_refl _) _).alloc (by simp) _)

/-- The sum of all frequencies below a tick. -/
def sumN (s n d : Int) : Nat → Int
  | 0 => 0
  | t + 1 => sumN s n d t + freq s n d t
theorem sumN_phase (s n d : Int) (t : Nat) : (sumN s n d t % 4).toNat = phaseN s n d t := by
  induction t with
  | zero => rfl
  | succ t ih => simp only [sumN, phaseN]; omega
theorem sumN_bd {s n d : Int} (h : chirpE s n d = 0) (t : Nat) (ht : t ≤ 1000000) : 0 ≤ sumN s n d t ∧ sumN s n d t ≤ 1000100000 * (t : Int) := by
  induction t with
  | zero => simp [sumN]
  | succ t ih =>
    obtain ⟨a, b⟩ := ih (by omega)
    obtain ⟨c, e⟩ := freq_bd (t := t) h (by omega) (by omega)
    simp only [sumN]
    omega

theorem waveL_length (s n d : Int) (k : Nat) : (waveL s n d k).length = k := by simp [waveL]
theorem waveL_succ (s n d : Int) (k : Nat) : waveL s n d (k + 1) = waveL s n d k ++ [turnG (phaseN s n d k)] := by simp [waveL, List.range_succ]

end Go.Proofs.YtnigmdkhecblnaaDoor

/- Contracts: the wave of a code as the reference makes it. -/
namespace Go.Proofs.YtnigmdkhecblnaaDoor
open Go.RowKit
set_option maxRecDepth 100000

theorem reL_length (l : List Int) : (reL l).length = l.length := by simp [reL]

end Go.Proofs.YtnigmdkhecblnaaDoor

