/- Contracts: the reference's check of a profile, its reflection. -/
import Derived.Test.YtdeehodekilaiaaG2
set_option linter.unusedSimpArgs false
set_option linter.unusedVariables false
namespace Go.Proofs.Ytdeehodekilaiaa
open Go.RowKit
set_option maxRecDepth 100000

theorem slabE_sq {g : G} (h : outB g.1 0 9000000 = true) : slabE g = 2 := by simp [slabE, squareE, errIf, h, firstE]
theorem slabE_t {g : G} (h : outB g.1 0 9000000 = false) (h2 : outB g.2 0 500 = true) : slabE g = 2 := by simp [slabE, squareE, errIf, h, h2, firstE]
theorem slabE_ok {g : G} (h : outB g.1 0 9000000 = false) (h2 : outB g.2 0 500 = false) : slabE g = 0 := by simp [slabE, squareE, errIf, h, h2, firstE]
theorem proE_base {base : Int} {l : List G} (h : outB base 0 500 = true) : proE base l = (0, 2) := by
  have : proHead base l.length = 2 := by simp [proHead, errIf, h, firstE]
  unfold proE; rw [this]; rfl
theorem proE_none {base : Int} {l : List G} (h : outB base 0 500 = false) (hn : l.length = 0) : proE base l = (0, 10) := by
  have : proHead base l.length = 10 := by simp [proHead, errIf, h, firstE, hn]
  unfold proE; rw [this]; rfl
theorem proE_many {base : Int} {l : List G} (h : outB base 0 500 = false) (hn : 12 < l.length) : proE base l = (0, 8) := by
  have h1 : ((l.length : Int) == 0) = false := by simp; rintro rfl; simp at hn
  have h2 : decide (12 < (l.length : Int)) = true := by simp; omega
  have : proHead base l.length = 8 := by simp only [proHead, errIf, h, h1, h2, firstE]; rfl
  unfold proE; rw [this]; rfl
theorem proE_in {base : Int} {l : List G} (h : outB base 0 500 = false) (h0 : l.length ≠ 0) (hn : l.length ≤ 12) : proE base l = firstBadFrom (fun _ g => slabE g) 0 l := by
  have h1 : ((l.length : Int) == 0) = false := by simp; rintro rfl; exact h0 rfl
  have h2 : decide (12 < (l.length : Int)) = false := by simp; omega
  have : proHead base l.length = 0 := by simp only [proHead, errIf, h, h1, h2, firstE]; rfl
  unfold proE; rw [this]; rfl


set_option maxHeartbeats 1000000 in
theorem refCheck_c (base : Int) (A : Option Addr) (c : Nat) (l : List G) (w : World) (hr : Rd w A (gs l)) (hl : l.length ≤ 1000) :
    Calls Try.prog 39 #[.agg #[.int .i64 base, .slice A l.length c]] w fun r w' => r = .returned (.tuple #[.int .i64 (proE base l).1, .int .i64 (proE base l).2]) ∧ Below w.heap.size w w' := by
  obtain ⟨W0, hW0⟩ : ∃ W0, w.alloc (.cells #[.int .i64 base, .slice A l.length c] 24) = W0 := ⟨_, rfl⟩
  have hX0 : Blk W0 w.heap.size 24 [.int .i64 base, .slice A l.length c] := by rw [← hW0]; exact Blk.new w _ [_, _]
  have hB0 : Below w.heap.size w W0 := by rw [← hW0]; exact alloc_bel w _
  have hr0 := hr.bel hB0
  have HW := hide hW0
  clear hW0 hr
  have c0 := hX0.cell 0; have c1 := hX0.cell 1; simp only [List.getElem?_cons_zero, List.getElem?_cons_succ] at c0 c1
  have z0 := hX0.lt
  have HB := hide (fun W => within_c base 0 500 W)
  cases h : outB base 0 500
  case true =>
    rw [h] at HB
    have HR := hide (proE_base (l := l) h)
    go_enter Try.func39, Try.ntmps39
    go_upto_region 1 with fail
    rw [HW.out]
    go_wp2_with (first | (go_at_call 15; with_reducible refine (HB.out _).mono ?_; rintro e_ w_ ⟨rfl, rfl⟩))
    go_ret2
    exact ⟨by rw [HR.out]; rfl, hB0⟩
  case false =>
    rw [h] at HB
    by_cases n0 : l.length = 0
    · have HR := hide (proE_none (l := l) h n0)
      have e1 : ((l.length : Int) == 0) = true := by simp; exact List.eq_nil_of_length_eq_zero n0
      clear n0
      go_enter Try.func39, Try.ntmps39
      go_upto_region 1 with fail
      rw [HW.out]
      go_wp2_with (first | (go_at_call 15; with_reducible refine (HB.out _).mono ?_; rintro e_ w_ ⟨rfl, rfl⟩))
      go_ret2
      exact ⟨by rw [HR.out]; rfl, hB0⟩
    · have e1 : ((l.length : Int) == 0) = false := by simp; rintro rfl; exact n0 rfl
      by_cases n1 : 12 < l.length
      · have HR := hide (proE_many (l := l) h n1)
        have e2 : decide (12 < (l.length : Int)) = true := by simp; omega
        go_enter Try.func39, Try.ntmps39
        go_upto_region 1 with fail
        rw [HW.out]
        go_wp2_with (first | (go_at_call 15; with_reducible refine (HB.out _).mono ?_; rintro e_ w_ ⟨rfl, rfl⟩))
        go_ret2
        exact ⟨by rw [HR.out]; rfl, hB0⟩
      · have HR := hide (proE_in (l := l) h n0 (by omega))
        have e2 : decide (12 < (l.length : Int)) = false := by simp; omega
        clear h
        go_enter Try.func39, Try.ntmps39
        go_upto_region 1 with fail
        rw [HW.out]
        go_wp2_with (first | (go_at_call 15; with_reducible refine (HB.out _).mono ?_; rintro e_ w_ ⟨rfl, rfl⟩))
        go_loop [4] (fun i => ∃ k : Nat, k ≤ l.length ∧ i = .int .i64 k ∧ Hid (∀ j (h : j < l.length), j < k → slabE l[j] = 0)) (fun i => l.length - (intOf i).toNat)
        case atStart => exact ⟨0, Nat.zero_le _, rfl, fun _ _ h => by omega⟩
        case round =>
          obtain ⟨k, hk, rfl, h0⟩ := hrel
          by_cases hlt : k < l.length
          · obtain ⟨b, off, rfl, hblt, hc0, hc1⟩ := hr0.g_at hlt
            have HS := hide (fun (hz : slabE l[k] = 2) => show firstBadFrom (fun _ g => slabE g) 0 l = ((k : Int), 2) by
              have := firstBadFrom_some (fun _ g => slabE g) l 0 k hlt (fun i hi => by simpa using h0.out i (by omega) hi) (by rw [hz]; decide)
              rw [this, hz]; simp)
            have HN := hide (fun (hz : slabE l[k] = 0) j (h : j < l.length) (hj : j < k + 1) => show slabE l[j] = 0 by
              by_cases e : j = k
              · subst e; exact hz
              · exact h0.out j h (by omega))
            generalize l[k] = g at hc0 hc1 HS HN
            obtain ⟨sq, t⟩ := g
            dsimp only at hc0 hc1
            have W1 := hide (fun W => within_c sq 0 9000000 W)
            have W2 := hide (fun W => within_c t 0 500 W)
            cases h1 : outB sq 0 9000000
            case true =>
              rw [h1] at W1
              have HZ := hide (HS.out (slabE_sq h1))
              clear HS HN
              go_wp2_with (first | (go_at_call 15; with_reducible refine (W1.out _).mono ?_; rintro e_ w_ ⟨rfl, rfl⟩))
              go_ret2
              exact ⟨by rw [HR.out, HZ.out]; rfl, hB0⟩
            case false =>
              rw [h1] at W1
              cases h2 : outB t 0 500
              case true =>
                rw [h2] at W2
                have HZ := hide (HS.out (slabE_t h1 h2))
                clear HS HN
                go_wp2_with (first | (go_at_call 15; with_reducible refine (W1.out _).mono ?_; rintro e_ w_ ⟨rfl, rfl⟩) | (go_at_call 15; with_reducible refine (W2.out _).mono ?_; rintro e_ w_ ⟨rfl, rfl⟩))
                go_ret2
                exact ⟨by rw [HR.out, HZ.out]; rfl, hB0⟩
              case false =>
                rw [h2] at W2
                have HZ := hide (HN.out (slabE_ok h1 h2))
                clear HS HN
                go_wp2_with (first | (go_at_call 15; with_reducible refine (W1.out _).mono ?_; rintro e_ w_ ⟨rfl, rfl⟩) | (go_at_call 15; with_reducible refine (W2.out _).mono ?_; rintro e_ w_ ⟨rfl, rfl⟩))
                go_round
                case rel => exact ⟨k + 1, by omega, by go_num, HZ.out⟩
                case measure => simp [intOf]; omega
          · have HZ : Hid (firstBadFrom (fun _ g => slabE g) 0 l = (0, 0)) := firstBadFrom_none _ l 0 fun i hi => by simpa using h0.out i hi (by omega)
            go_wp2
            go_ret2
            exact ⟨by rw [HR.out, HZ.out]; rfl, hB0⟩

theorem refErr_c (base : Int) (A : Option Addr) (c : Nat) (l : List G) (w : World) (hr : Rd w A (gs l)) (hl : l.length ≤ 1000) :
    Calls Try.prog 11 #[.agg #[.int .i64 base, .slice A l.length c]] w fun r w' => r = .returned (.int .i64 (proE base l).2) ∧ Below w.heap.size w w' := by
  have HC := hide (fun W h => refCheck_c base A c l W h hl)
  generalize (proE base l).1 = i at HC
  generalize (proE base l).2 = e at HC ⊢
  go_enter Try.func11, Try.ntmps11
  go_wp2_with (first | (go_at_call 39; refine (HC.out _ (hr.alloc _)).mono ?_; rintro e w1 ⟨rfl, hb1⟩))
  go_ret
  exact ⟨rfl, bel_tr (alloc_bel _ _) (by simp) hb1⟩

set_option maxHeartbeats 1000000 in
theorem refReflected_c (base f : Int) (A : Option Addr) (c : Nat) (l : List G) (w : World) (hr : Rd w A (gs l)) (hP : Pro base l) (f0 : 1 ≤ f) (f1 : f ≤ 3000) :
    Calls Try.prog 41 #[.agg #[.int .i64 base, .slice A l.length c], .int .i64 f] w fun r w' =>
      (r = if passN l f = l.length then .returned (.tuple #[.int .i64 0, .int .i64 0, .bool false]) else .returned (.tuple #[.int .i64 (hgt base l (passN l f)), .int .i64 (passN l f), .bool true])) ∧ Below w.heap.size w w' := by
  have hS := hP.slabs
  have hn := hS.n1
  have hb0 := hS.b0
  have hb1 := hS.b1
  have hff := mul_bd (show 0 ≤ f by omega) f1 (show 0 ≤ f by omega) f1
  obtain ⟨W0, hW0⟩ : ∃ W0, w.alloc (.cells #[.int .i64 base, .slice A l.length c] 24) = W0 := ⟨_, rfl⟩
  have hX0 : Blk W0 w.heap.size 24 [.int .i64 base, .slice A l.length c] := by rw [← hW0]; exact Blk.new w _ [_, _]
  have hB0 : Below w.heap.size w W0 := by rw [← hW0]; exact alloc_bel w _
  have hr0 := hr.bel hB0
  have HW := hide hW0
  clear hW0 hr
  have c0 := hX0.cell 0; have c1 := hX0.cell 1; simp only [List.getElem?_cons_zero, List.getElem?_cons_succ] at c0 c1
  have z0 := hX0.lt
  have hpl := passN_le l f
  have HLT := hide (fun k h => passN_ltD (l := l) (f := f) (k := k) h)
  have HAT := hide (fun h => passN_atD (l := l) (f := f) h)
  have HH := hide (fun k h => hgt_bd hS (k := k) h)
  have HG := hide (fun k h => hS.at (k := k) h)
  obtain ⟨m, hm⟩ : ∃ m, passN l f = m := ⟨_, rfl⟩
  rw [hm] at hpl HLT HAT ⊢
  clear hm hS
  go_enter Try.func41, Try.ntmps41
  go_upto_region 1 with fail
  rw [HW.out]
  go_wp2
  go_loop [7, 8] (fun h i => ∃ k : Nat, k ≤ m ∧ h = .int .i64 (hgt base l k) ∧ i = .int .i64 k) (fun _ i => m + 1 - (intOf i).toNat)
  case atStart => exact ⟨0, Nat.zero_le _, rfl, rfl⟩
  case round =>
    obtain ⟨k, hkm, rfl, rfl⟩ := hrel
    by_cases hlt : k < l.length
    · obtain ⟨b, off, rfl, hblt, hc0, hc1⟩ := hr0.g_at hlt
      have hh := HH.out k (by omega)
      have hg := HG.out k hlt
      have HX : Hid (hgt base l (k + 1) = hgt base l k + (l.getD k G0).2) := rfl
      by_cases hkp : k < m
      · have hp := HLT.out k hkp
        rw [getD_at hlt] at hp hg HX
        generalize l[k].1 = sq at hc0 hp hg
        generalize l[k].2 = t at hc1 hg HX
        generalize hgt base l k = H at hh HX ⊢
        have e1 : decide (f * f ≤ sq) = false := decide_eq_false (by omega)
        go_wp2
        go_round
        case rel => exact ⟨k + 1, by omega, by rw [HX.out], by go_num⟩
        case measure => simp [intOf]; omega
      · obtain rfl : k = m := by omega
        have hp := HAT.out hlt
        rw [getD_at hlt] at hp hg
        generalize l[k].1 = sq at hc0 hp hg
        generalize l[k].2 = t at hc1 hg
        obtain ⟨H, hH⟩ : ∃ H, hgt base l k = H := ⟨_, rfl⟩
        rw [hH] at hh ⊢
        have HK := hide hH
        clear hH
        have e1 : decide (f * f ≤ sq) = true := decide_eq_true (by omega)
        have hne : k ≠ l.length := by omega
        go_wp2
        exact bodyPost_ret (v := .tuple #[.int .i64 H, .int .i64 k, .bool true]) (by simp [results, Try.results41, go_sem]; try rfl) rfl ⟨by rw [HK.out], hB0⟩
    · obtain rfl : k = m := by omega
      have hne : k = l.length := by omega
      go_wp2
      exact bodyPost_ret (v := .tuple #[.int .i64 0, .int .i64 0, .bool false]) (by simp [results, Try.results41, go_sem]; try rfl) rfl ⟨rfl, hB0⟩
end Go.Proofs.Ytdeehodekilaiaa
