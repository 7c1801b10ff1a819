/- Contracts of the small words of the reference: quotients, roots, indexes, fractions compared. -/
import Derived.Test.YtdeehodekilaiaaF1
set_option linter.unusedSimpArgs false
set_option linter.unusedVariables false
namespace Go.Proofs.Ytdeehodekilaiaa
open Go.RowKit
set_option maxRecDepth 100000

theorem floor_c (n d : Int) (w : World) (h1 : -4000000000000000000 ≤ n) (h2 : n ≤ 4000000000000000000) (d1 : 1 ≤ d) (d2 : d ≤ 4000000000000000000) :
    Calls Try.prog 57 #[.int .i64 n, .int .i64 d] w fun r w' => r = .returned (.int .i64 (n / d)) ∧ w = w' := by
  have hq := tdiv_floor (n := n) (d := d) (by omega)
  by_cases h0 : 0 ≤ n
  · have hm : 0 ≤ n % d := Int.emod_nonneg _ (by omega)
    have hd1 : 0 ≤ n / d := Int.ediv_nonneg h0 (by omega)
    have hd2 : n / d ≤ n := Int.ediv_le_self _ h0
    have e1 : (d == 0) = false := by simp; omega
    clear hq
    go_enter Try.func57, Try.ntmps57
    go_wp2
    go_ret
    exact ⟨rfl, rfl⟩
  · have e1 : (d == 0) = false := by simp; omega
    have hb1 : -4000000000000000000 ≤ n.tdiv d := by
      have := Int.ediv_le_self (a := -n) d (by omega)
      have h3 : (-n).tdiv d = -(n.tdiv d) := Int.neg_tdiv n d
      have h4 : (-n).tdiv d = (-n) / d := Int.tdiv_eq_ediv_of_nonneg (by omega)
      omega
    have hb2 : n.tdiv d ≤ 0 := by
      have := Int.ediv_nonneg (a := -n) (b := d) (by omega) (by omega)
      have h3 : (-n).tdiv d = -(n.tdiv d) := Int.neg_tdiv n d
      have h4 : (-n).tdiv d = (-n) / d := Int.tdiv_eq_ediv_of_nonneg (by omega)
      omega
    by_cases hm : n.tmod d < 0
    · rw [if_pos hm] at hq
      have HQ := hide hq
      clear hq
      have u1 : IntKind.i64.wrap (n.tdiv d) = n.tdiv d := by simp (disch := omega) only [IntWalk.i64_in]
      have u2 : wrap64 (n.tdiv d) = n.tdiv d := wrap64_id (by omega) (by omega)
      have u3 : wrap64 (n.tdiv d - 1) = n.tdiv d - 1 := wrap64_id (by omega) (by omega)
      go_enter Try.func57, Try.ntmps57
      go_wp2
      go_ret
      exact ⟨ret_int (by rw [HQ.out]), rfl⟩
    · rw [if_neg hm] at hq
      have HQ := hide hq
      clear hq
      have u1 : IntKind.i64.wrap (n.tdiv d) = n.tdiv d := by simp (disch := omega) only [IntWalk.i64_in]
      have u2 : wrap64 (n.tdiv d) = n.tdiv d := wrap64_id (by omega) (by omega)
      go_enter Try.func57, Try.ntmps57
      go_wp2
      go_ret
      exact ⟨ret_int (by rw [HQ.out]), rfl⟩

theorem ceil_c (n d : Int) (w : World) (h1 : -4000000000000000000 ≤ n) (h2 : n ≤ 4000000000000000000) (d1 : 1 ≤ d) (d2 : d ≤ 4000000000000000000) :
    Calls Try.prog 58 #[.int .i64 n, .int .i64 d] w fun r w' => r = .returned (.int .i64 (up n d)) ∧ w = w' := by
  have hu := up_neg (n := n) (d := d) (by omega)
  have hb1 : -4000000000000000000 ≤ -n / d := (Int.le_ediv_iff_mul_le (by omega)).2 (by
    have := Int.mul_le_mul_of_nonneg_left (show 1 ≤ d by omega) (show (0 : Int) ≤ 4000000000000000000 by omega)
    omega)
  have hb2 : -n / d ≤ 4000000000000000000 := by
    have := (Int.ediv_lt_iff_lt_mul (a := -n) (b := 4000000000000000001) (show 0 < d by omega)).2 (by
      have := Int.mul_le_mul_of_nonneg_left (show 1 ≤ d by omega) (show (0 : Int) ≤ 4000000000000000001 by omega)
      omega)
    omega
  have HF := hide (fun W => floor_c (-n) d W (by omega) (by omega) d1 d2)
  have HU := hide hu
  clear hu
  generalize -n / d = q at HF HU hb1 hb2
  go_enter Try.func58, Try.ntmps58
  go_wp2_with (first | (go_at_call 57; refine (HF.out _).mono ?_; rintro e_ w_ ⟨rfl, rfl⟩))
  go_ret
  exact ⟨ret_int (by rw [← HU.out]), rfl⟩

theorem frequencyErr_c (f : Int) (w : World) : Calls Try.prog 40 #[.int .i64 f] w fun r w' => r = .returned (.int .i64 (freqE f)) ∧ w = w' := by
  cases h : outB f 1 3000
  all_goals (
    have HW := hide (fun W => within_c f 1 3000 W)
    rw [h] at HW
    go_enter Try.func40, Try.ntmps40
    go_wp2_with (first | (go_at_call 15; refine (HW.out _).mono ?_; rintro e_ w_ ⟨rfl, rfl⟩))
    go_ret
    exact ⟨ret_int (by unfold freqE; rw [h]; rfl), rfl⟩)

theorem root_c (n : Nat) (hn : n ≤ 1152921504606846976) (w : World) : Calls Try.prog 68 #[.int .i64 n] w fun r w' => r = .returned (.int .i64 (rootN n)) ∧ w = w' := by
  go_enter Try.func68, Try.ntmps68
  go_wp2
  go_loop [3, 4] (fun r b => ∃ m k : Nat, k ≤ 31 ∧ r = .int .i64 m ∧ b = .int .i64 (bitN k) ∧ Hid (RootAt n m k)) (fun _ b => (intOf b).toNat)
  case atStart => exact ⟨0, 31, Nat.le_refl _, rfl, rfl, RootAt.start hn⟩
  case round =>
    obtain ⟨m, k, hk, rfl, rfl, hR⟩ := hrel
    rcases Nat.eq_zero_or_pos k with rfl | hkp
    · have HD := hide hR.out.done
      rw [show ((bitN 0 : Nat) : Int) = 0 from rfl]
      go_wp2
      go_ret
      exact ⟨ret_int (by rw [HD.out]), rfl⟩
    · obtain ⟨k, rfl⟩ : ∃ j, k = j + 1 := ⟨k - 1, by omega⟩
      have hbd := hR.out.bd
      have hhalf := bitN_half k
      have hb1 : 1 ≤ bitN (k + 1) := Nat.two_pow_pos k
      have HY := hide (fun h => hR.out.yes h)
      have HN := hide (fun h => hR.out.no h)
      rw [show (2 : Nat) ^ k = bitN (k + 1) from rfl] at HY HN
      clear hR
      generalize bitN (k + 1) = b at hbd hhalf hb1 HY HN
      have hbh : (b : Int) / 2 = ((bitN k : Nat) : Int) := by omega
      have HH := hide hhalf
      clear hhalf
      have hbk : bitN k < b := by omega
      have hsq : ((m : Int) + b) * ((m : Int) + b) ≤ 2147483648 * 2147483648 := Int.mul_le_mul (by omega) (by omega) (by omega) (by omega)
      have hs0 : 0 ≤ ((m : Int) + b) * ((m : Int) + b) := Int.mul_nonneg (by omega) (by omega)
      have hcast : (((m + b) * (m + b) : Nat) : Int) = ((m : Int) + b) * ((m : Int) + b) := by rw [Int.natCast_mul]; simp
      by_cases hc : (m + b) * (m + b) ≤ n
      · have e1 : decide (((m : Int) + b) * ((m : Int) + b) ≤ (n : Int)) = true := decide_eq_true (by omega)
        have H1 := hide (HY.out hc)
        clear hc hcast
        go_wp2
        go_round
        case rel => exact ⟨m + b, k, by omega, by go_num, rfl, H1.out⟩
        case measure => simp [intOf]; omega
      · have e1 : decide (((m : Int) + b) * ((m : Int) + b) ≤ (n : Int)) = false := decide_eq_false (by omega)
        have H1 := hide (HN.out hc)
        clear hc hcast
        go_wp2
        go_round
        case rel => exact ⟨m, k, by omega, rfl, rfl, H1.out⟩
        case measure => simp [intOf]; omega

theorem refIndex_c (sq f : Int) (w : World) (h1 : 1 ≤ f) (h2 : f ≤ 3000) (h0 : 0 ≤ sq) (hs : sq < f * f) :
    Calls Try.prog 56 #[.int .i64 sq, .int .i64 f] w fun r w' => r = .returned (.agg #[.int .i64 (idx sq f).1, .int .i64 (idx sq f).2]) ∧ Below w.heap.size w w' := by
  have hff := mul_bd (show 0 ≤ f by omega) h2 (show 0 ≤ f by omega) h2
  have hA : 1000000 * f * f = 1000000 * (f * f) := by rw [Int.mul_assoc]
  have hA2 : 0 ≤ 1000000 * f * f ∧ 1000000 * f * f ≤ 9000000000000 := by omega
  have hd : (f * f - sq == 0) = false := by simp; omega
  have hq0 : 0 ≤ 1000000 * f * f / (f * f - sq) := Int.ediv_nonneg hA2.1 (by omega)
  have hq1 : 1000000 * f * f / (f * f - sq) ≤ 1000000 * f * f := Int.ediv_le_self _ hA2.1
  obtain ⟨r1, r2⟩ := toNat_root hq0
  have HI : Hid (idx sq f = if (rootN (1000000 * f * f / (f * f - sq)).toNat : Int) * rootN (1000000 * f * f / (f * f - sq)).toNat * (f * f - sq) = 1000000 * f * f
    then ((rootN (1000000 * f * f / (f * f - sq)).toNat : Int), (rootN (1000000 * f * f / (f * f - sq)).toNat : Int)) else ((rootN (1000000 * f * f / (f * f - sq)).toNat : Int), (rootN (1000000 * f * f / (f * f - sq)).toNat : Int) + 1)) := rfl
  have HR := hide (fun W => root_c (1000000 * f * f / (f * f - sq)).toNat (by omega) W)
  rw [Int.toNat_of_nonneg hq0] at HR
  have hlow : (rootN (1000000 * f * f / (f * f - sq)).toNat : Int) * rootN (1000000 * f * f / (f * f - sq)).toNat * (f * f - sq) ≤ 1000000 * f * f := (div_le_iff (by omega)).1 r1
  generalize rootN (1000000 * f * f / (f * f - sq)).toNat = r at r1 r2 HI HR hlow
  have hr : (r : Int) ≤ 3000000 := by
    have : (r : Int) < 3000001 := sqd_lt (by omega) (by omega) (show (0 : Int) < 1 by omega) (by omega)
    omega
  have hrr := mul_bd (show 0 ≤ (r : Int) by omega) hr (show 0 ≤ (r : Int) by omega) hr
  have hrd : 0 ≤ (r : Int) * r * (f * f - sq) := Int.mul_nonneg hrr.1 (by omega)
  obtain ⟨W0, hW0⟩ : ∃ W0, w.alloc (.cells #[.int .i64 0, .int .i64 0] 51) = W0 := ⟨_, rfl⟩
  have hX0 : Blk W0 w.heap.size 51 [.int .i64 0, .int .i64 0] := by rw [← hW0]; exact Blk.new w _ [_, _]
  have hB0 : Below w.heap.size w W0 := by rw [← hW0]; exact alloc_bel w _
  have HW := hide hW0
  clear hW0 hA r1 r2 hq1
  have k0 := hX0.cell 0
  have k1 := hX0.cell 1
  have k2 := hX0.frozen 0
  have k3 := hX0.frozen 1
  simp only [List.getElem?_cons_zero, List.getElem?_cons_succ] at k0 k1
  by_cases he : (r : Int) * r * (f * f - sq) = 1000000 * f * f
  · have e1 : ((r : Int) * r * (f * f - sq) == 1000000 * f * f) = true := by simpa using he
    have HX : Hid (idx sq f = ((r : Int), (r : Int))) := by show _ = _; rw [HI.out, if_pos he]
    clear he
    go_enter Try.func56, Try.ntmps56
    go_upto_region 1 with fail
    rw [HW.out]
    go_wp2_with (first | (go_at_call 68; refine (HR.out _).mono ?_; rintro e_ w_ ⟨rfl, rfl⟩))
    obtain ⟨WE, hWE⟩ : ∃ WE, (W0.setCell ⟨w.heap.size, 0, none⟩ (.int .i64 r)).setCell ⟨w.heap.size, 1, none⟩ (.int .i64 r) = WE := ⟨_, rfl⟩
    rw [hWE]
    have hE : Blk WE w.heap.size 51 [.int .i64 r, .int .i64 r] := by rw [← hWE]; exact (hX0.set_ 0 _).set_ 1 _
    have hBE : Below w.heap.size w WE := by rw [← hWE]; exact (hB0.setCell (Nat.le_refl _) _).setCell (Nat.le_refl _) _
    clear hWE
    have g0 := hE.cell 0; have g1 := hE.cell 1; simp only [List.getElem?_cons_zero, List.getElem?_cons_succ] at g0 g1
    exact bodyPost_ret (v := .agg #[.int .i64 r, .int .i64 r]) (by simp [results, Try.results56, go_sem, g0, g1]; try rfl) rfl ⟨by rw [HX.out], hBE⟩
  · have e1 : ((r : Int) * r * (f * f - sq) == 1000000 * f * f) = false := by simpa using he
    have HX : Hid (idx sq f = ((r : Int), (r : Int) + 1)) := by show _ = _; rw [HI.out, if_neg he]
    clear he
    go_enter Try.func56, Try.ntmps56
    go_upto_region 1 with fail
    rw [HW.out]
    go_wp2_with (first | (go_at_call 68; refine (HR.out _).mono ?_; rintro e_ w_ ⟨rfl, rfl⟩))
    obtain ⟨WE, hWE⟩ : ∃ WE, (W0.setCell ⟨w.heap.size, 0, none⟩ (.int .i64 r)).setCell ⟨w.heap.size, 1, none⟩ (.int .i64 ((r : Int) + 1)) = WE := ⟨_, rfl⟩
    rw [hWE]
    have hE : Blk WE w.heap.size 51 [.int .i64 r, .int .i64 ((r : Int) + 1)] := by rw [← hWE]; exact (hX0.set_ 0 _).set_ 1 _
    have hBE : Below w.heap.size w WE := by rw [← hWE]; exact (hB0.setCell (Nat.le_refl _) _).setCell (Nat.le_refl _) _
    clear hWE
    have g0 := hE.cell 0; have g1 := hE.cell 1; simp only [List.getElem?_cons_zero, List.getElem?_cons_succ] at g0 g1
    exact bodyPost_ret (v := .agg #[.int .i64 r, .int .i64 ((r : Int) + 1)]) (by simp [results, Try.results56, go_sem, g0, g1]; try rfl) rfl ⟨by rw [HX.out], hBE⟩
end Go.Proofs.Ytdeehodekilaiaa
