/- Contracts: correlations. -/
import Derived.Test.YtmedjedmeggbpaaDoorW3
import Derived.Test.YtmedjedmeggbpaaDoorCorr
namespace Go.Proofs.YtmedjedmeggbpaaDoor
open Go.RowKit
set_option maxRecDepth 100000

theorem corr_nat (a b : List Int) (A B : Option Addr) (c d lag : Nat) (w : World) (hr : Rd w A (ints a)) (hs : Rd w B (ints b)) (ha : Small a) (hb : Small b) (hl : a.length ≤ 1000) (hab : a.length = b.length) (hlag : lag ≤ a.length) :
    Calls Tryd.prog 95 #[.slice A a.length c, .slice B b.length d, .int .i64 lag] w fun r w' => r = .returned (.int .i64 (corrN a b lag)) ∧ ∃ n, w' = w.drewN n := by
  have HAB := hide hab
  have hbl : b.length ≤ 1000 := by omega
  clear hab
  have hd : decide ((lag : Int) < 0) = false := by simp
  go_enter Tryd.func95, Tryd.ntmps95
  go_wp2
  go_loopw [7, 20] (fun s i wr => ∃ k : Nat, k ≤ a.length - lag ∧ i = .int .i64 k ∧ s = .int .i64 (corrTo a b lag k) ∧ ∃ n, wr = w.drewN n) (fun _ i _ => a.length - lag - (intOf i).toNat)
  case atStart => exact ⟨0, Nat.zero_le _, rfl, rfl, 0, rfl⟩
  case round =>
    obtain ⟨k, hk, rfl, rfl, n, rfl⟩ := hrel
    by_cases hlt : k < a.length - lag
    · have hlt1 : k + lag < a.length := by omega
      have hlt2 : k < b.length := by have := HAB.out; omega
      obtain ⟨b1, off1, rfl, _, hc1⟩ := hr.int_at hlt1
      obtain ⟨b2, off2, rfl, _, hc2⟩ := hs.int_at hlt2
      have e1 : a.getD (k + lag) 0 = a[k + lag] := by simp [List.getD, hlt1]
      have e2 : b.getD k 0 = b[k] := by simp [List.getD, hlt2]
      have h1 := ha.at_ (k + lag)
      have h2 := hb.at_ k
      rw [e1] at h1
      rw [e2] at h2
      obtain ⟨h3, h4⟩ := small_mul h1.1 h1.2 h2.1 h2.2
      obtain ⟨h5, h6⟩ := corrTo_bd ha hb lag k
      have H : Hid (corrTo a b lag (k + 1) = corrTo a b lag k + a[k + lag] * b[k]) := by show corrTo a b lag (k + 1) = _; rw [corrTo, e1, e2]
      clear e1 e2 h1 h2
      generalize a[k + lag] = x at hc1 h3 h4 H
      generalize b[k] = y at hc2 h3 h4 H
      generalize corrTo a b lag k = s at h5 h6 H
      go_wp2
      go_quiet (fail)
      go_wp2
      go_roundw
      case rel => exact ⟨k + 1, by omega, by go_num, by rw [H.out], _, rfl⟩
      case measure => simp [intOf]; omega
    · have H : Hid (corrN a b lag = corrTo a b lag k) := by show corrN a b lag = _; unfold corrN; congr 1; omega
      go_wp2
      go_ret
      exact ⟨by rw [H.out]; rfl, n, rfl⟩

theorem corr_c (a b : List Int) (A B : Option Addr) (c d : Nat) (lag : Int) (w : World) (hr : Rd w A (ints a)) (hs : Rd w B (ints b)) (ha : Small a) (hb : Small b) (hl : a.length ≤ 1000) (hab : a.length = b.length)
    (h1 : -(a.length : Int) ≤ lag) (h2 : lag ≤ a.length) :
    Calls Tryd.prog 95 #[.slice A a.length c, .slice B b.length d, .int .i64 lag] w fun r w' => r = .returned (.int .i64 (corr a b lag)) ∧ ∃ n, w' = w.drewN n := by
  by_cases hn : lag < 0
  · obtain ⟨k, rfl⟩ : ∃ k : Nat, lag = -(k : Int) := ⟨(-lag).toNat, by omega⟩
    have H : Hid (corr a b (-(k : Int)) = corrN b a k) := by
      show corr a b (-(k : Int)) = _
      unfold corr
      rw [if_pos hn, Int.neg_neg, Int.toNat_natCast]
    have hc := corr_nat b a B A d c k w hs hr hb ha (by omega) hab.symm (by omega)
    have HC := hide hc
    clear hc hab
    have hd : decide (-(k : Int) < 0) = true := by simpa using hn
    go_enter Tryd.func95, Tryd.ntmps95
    go_wp2_with (first | (go_at_call 95; refine HC.out.mono ?_; rintro e w1 ⟨rfl, n, rfl⟩))
    go_ret
    exact ⟨by rw [H.out]; rfl, n, rfl⟩
  · obtain ⟨k, rfl⟩ : ∃ k : Nat, lag = (k : Int) := ⟨lag.toNat, by omega⟩
    refine (corr_nat a b A B c d k w hr hs ha hb hl hab (by omega)).mono ?_
    rintro e w' ⟨rfl, n, rfl⟩
    exact ⟨by unfold corr; rw [if_neg hn, Int.toNat_natCast], n, rfl⟩

theorem lobeOf_c (a b : List Int) (A B : Option Addr) (c d : Nat) (w : World) (hr : Rd w A (ints a)) (hs : Rd w B (ints b)) (ha : Small a) (hb : Small b) (hl : a.length ≤ 1000) (hab : a.length = b.length) :
    Calls Tryd.prog 102 #[.slice A a.length c, .slice B b.length d] w fun r w' => r = .returned (.int .i64 (lobe a b)) ∧ ∃ n, w' = w.drewN n := by
  have HAB := hide hab
  have HA : Hid (∀ (k : Nat) (W : World), k ≤ a.length → Rd W A (ints a) → Calls Tryd.prog 95 #[.slice A a.length c, .slice A a.length c, .int .i64 k] W fun r w' => r = .returned (.int .i64 (corrN a a k)) ∧ ∃ n, w' = W.drewN n) :=
    fun k W hk hw => corr_nat a a A A c c k W hw hw ha ha hl rfl hk
  have HB : Hid (∀ (k : Nat) (W : World), k ≤ a.length → Rd W B (ints b) → Calls Tryd.prog 95 #[.slice B b.length d, .slice B b.length d, .int .i64 k] W fun r w' => r = .returned (.int .i64 (corrN b b k)) ∧ ∃ n, w' = W.drewN n) :=
    fun k W hk hw => corr_nat b b B B d d k W hw hw hb hb (by omega) rfl (by omega)
  clear hab
  go_enter Tryd.func102, Tryd.ntmps102
  go_wp2
  go_loopw [5] (fun i wr => ∃ k : Nat, 1 ≤ k ∧ i = .int .i64 k ∧ (k ≤ a.length ∨ k = 1) ∧ (∃ n, wr = w.drewN n) ∧ Hid (∀ i, 1 ≤ i → i < k → corrN a a i + corrN b b i = 0)) (fun i _ => a.length - (intOf i).toNat)
  case atStart => exact ⟨1, Nat.le_refl _, rfl, .inr rfl, ⟨0, rfl⟩, fun _ _ h => by omega⟩
  case round =>
    obtain ⟨k, hk, rfl, hk2, ⟨n, rfl⟩, h0⟩ := hrel
    by_cases hlt : k < a.length
    · obtain ⟨g1, g2⟩ := corrN_bd ha ha k
      obtain ⟨g3, g4⟩ := corrN_bd hb hb k
      have hbl : b.length ≤ 1000 := by have := HAB.out; omega
      by_cases hz : corrN a a k + corrN b b k = 0
      · have H1 : Hid (∀ i, 1 ≤ i → i < k + 1 → corrN a a i + corrN b b i = 0) := fun i h1 h2 => by
          by_cases e : i = k
          · subst e; exact hz
          · exact h0.out i h1 (by omega)
        have e1 : (corrN a a k + corrN b b k != 0) = false := by simpa using hz
        clear hz hk2
        go_wp2_with (first
          | (go_at_call_of 95 (Value.slice A a.length c); refine (HA.out k _ (by omega) (hr.drewN _)).mono ?_; rintro e w1 ⟨rfl, n1, rfl⟩)
          | (go_at_call_of 95 (Value.slice B b.length d); refine (HB.out k _ (by omega) (hs.drewN _)).mono ?_; rintro e w2 ⟨rfl, n2, rfl⟩))
        go_roundw
        case rel => exact ⟨k + 1, by omega, by go_num, by omega, ⟨_, rfl⟩, H1⟩
        case measure => simp [intOf]; omega
      · have H1 : Hid (lobe a b = k) := lobe_at a b k hk hlt h0.out hz
        have e1 : (corrN a a k + corrN b b k != 0) = true := by simpa using hz
        clear hz hk2
        go_wp2_with (first
          | (go_at_call_of 95 (Value.slice A a.length c); refine (HA.out k _ (by omega) (hr.drewN _)).mono ?_; rintro e w1 ⟨rfl, n1, rfl⟩)
          | (go_at_call_of 95 (Value.slice B b.length d); refine (HB.out k _ (by omega) (hs.drewN _)).mono ?_; rintro e w2 ⟨rfl, n2, rfl⟩))
        go_ret
        exact ⟨by rw [H1.out]; rfl, _, rfl⟩
    · have H1 : Hid (lobe a b = 0) := lobe_none a b fun i h1 h2 => h0.out i h1 (by omega)
      clear hk2
      go_wp2
      go_ret
      exact ⟨by rw [H1.out]; rfl, n, rfl⟩
end Go.Proofs.YtmedjedmeggbpaaDoor
