/- Contracts: helpers of the statements and the references (lengths, sizes, checked codes). -/
import Derived.Test.YtmedjedmeggbpaaDoorMathA
import Derived.Maps.AppendAt
import Derived.Deep.AppendLies
namespace Go.Proofs.YtmedjedmeggbpaaDoor
open Go.RowKit
set_option maxRecDepth 100000

theorem few_c (n c : Nat) (A : Option Addr) (w : World) : Calls Tryd.prog 16 #[.slice A n c] w fun r w' => r = .returned (.bool (decide ((n : Int) ≤ 34))) ∧ w = w' := by
  go_enter Tryd.func16, Tryd.ntmps16
  go_wp2
  go_ret
  exact ⟨rfl, rfl⟩

theorem size_c (n : Int) (w : World) (h1 : -9223372036854775807 ≤ n) (h2 : n ≤ 9223372036854775807) : Calls Tryd.prog 100 #[.int .i64 n] w fun r w' => r = .returned (.int .i64 (if n < -n then -n else n)) ∧ w = w' := by
  by_cases h : n < -n
  · rw [if_pos h]
    go_enter Tryd.func100, Tryd.ntmps100
    go_wp2
    go_ret
    exact ⟨rfl, rfl⟩
  · rw [if_neg h]
    have h' : -n ≤ n := by omega
    go_enter Tryd.func100, Tryd.ntmps100
    go_wp2
    go_ret
    exact ⟨rfl, rfl⟩

theorem refCheckCode_c (l : List Int) (A : Option Addr) (c : Nat) (w : World) (hr : Rd w A (ints l)) (hl : l.length ≤ 1000) :
    Calls Tryd.prog 21 #[.slice A l.length c] w fun r w' => r = .returned (.int .i64 (codeE l)) ∧ w = w' := by
  by_cases h0 : l.length = 0
  · have H : Hid (codeE l = 10) := by
      have hx : lenE l.length 32 = 10 := by rw [lenE_eq, if_pos (by omega)]
      show codeE l = 10; unfold codeE; rw [hx]; rfl
    have e1 : ((l.length : Int) == 0) = true := by rw [h0]; rfl
    clear h0
    go_enter Tryd.func21, Tryd.ntmps21
    go_wp2
    go_ret
    exact ⟨by rw [H.out]; rfl, rfl⟩
  by_cases h32 : 32 < l.length
  · have H : Hid (codeE l = 8) := by
      have hx : lenE l.length 32 = 8 := by rw [lenE_eq, if_neg (by omega), if_pos (by omega)]
      show codeE l = 8; unfold codeE; rw [hx]; rfl
    have e1 : ((l.length : Int) == 0) = false := beq_eq_false_iff_ne.2 (by omega)
    have e2 : decide ((32 : Int) < l.length) = true := by simp; omega
    clear h0 h32
    go_enter Tryd.func21, Tryd.ntmps21
    go_wp2
    go_ret
    exact ⟨by rw [H.out]; rfl, rfl⟩
  have HE : Hid (codeE l = (firstBadFrom (fun _ n => codeItem n) 0 l).2) := by
    have hx : lenE l.length 32 = 0 := by rw [lenE_eq, if_neg (by omega), if_neg (by omega)]
    show codeE l = _; unfold codeE; rw [hx]; rfl
  have e1 : ((l.length : Int) == 0) = false := beq_eq_false_iff_ne.2 (by omega)
  have e2 : decide ((32 : Int) < l.length) = false := by simp; omega
  go_enter Tryd.func21, Tryd.ntmps21
  go_wp2
  go_loopw [3] (fun i wr => ∃ k : Nat, k ≤ l.length ∧ i = .int .i64 k ∧ wr = w ∧ Hid (∀ i (hi : i < k) (h : i < l.length), codeItem l[i] = 0)) (fun i _ => l.length - (intOf i).toNat)
  case atStart => exact ⟨0, Nat.zero_le _, rfl, rfl, fun _ h _ => absurd h (Nat.not_lt_zero _)⟩
  case round =>
    obtain ⟨k, hk, rfl, rfl, h0'⟩ := hrel
    by_cases hlt : k < l.length
    · obtain ⟨b, off, rfl, hbl, z0⟩ := hr.int_at hlt
      by_cases hit : l[k] = 1 ∨ l[k] = -1
      · have hnext : Hid (∀ i (hi : i < k + 1) (h : i < l.length), codeItem l[i] = 0) := fun i hi h => by
          by_cases e : i = k
          · subst e; unfold codeItem; rw [if_pos hit]
          · exact h0'.out i (by omega) h
        have hor : (l[k] != 1) = false ∨ ((l[k] != 1) = true ∧ (l[k] != -1) = false) := by
          rcases hit with h | h <;> rw [h] <;> decide
        clear hit
        generalize l[k] = x at z0 hor
        rcases hor with h1 | ⟨h1, h2⟩
        · go_wp2
          go_roundw
          case rel => exact ⟨k + 1, by omega, by go_num, by trivial, hnext⟩
          case measure => simp [intOf]; omega
        · go_wp2
          go_roundw
          case rel => exact ⟨k + 1, by omega, by go_num, by trivial, hnext⟩
          case measure => simp [intOf]; omega
      · have H : Hid (codeE l = 2) := by
          show codeE l = 2
          rw [HE.out, firstBadFrom_some (fun _ n => codeItem n) l 0 k hlt (fun i hi => by exact h0'.out i hi (by omega)) (by unfold codeItem; rw [if_neg hit]; decide)]
          show codeItem l[k] = 2
          unfold codeItem; rw [if_neg hit]
        have h1 : (l[k] != 1) = true := by simp; omega
        have h2 : (l[k] != -1) = true := by simp; omega
        clear hit
        generalize l[k] = x at z0 h1 h2
        go_wp2
        go_ret
        exact ⟨by rw [H.out]; rfl, rfl⟩
    · have H : Hid (codeE l = 0) := by
        show codeE l = 0
        rw [HE.out, firstBadFrom_none (fun _ n => codeItem n) l 0 (fun i hi => by simpa using h0'.out i (by omega) hi)]
      go_wp2
      go_ret
      exact ⟨by rw [H.out]; rfl, rfl⟩

theorem refCorr_to (a b : List Int) (A B : Option Addr) (c d : Nat) (lag : Int) (w : World) (hr : Rd w A (ints a)) (hs : Rd w B (ints b)) (ha : Small a) (hb : Small b) (hl : a.length ≤ 1000) (hl2 : b.length ≤ 1000) (h1 : -1000 ≤ lag) (h2 : lag ≤ 1000) :
    Calls Tryd.prog 27 #[.slice A a.length c, .slice B b.length d, .int .i64 lag] w fun r w' => r = .returned (.int .i64 (corrRTo a b lag b.length)) ∧ ∃ n, w' = w.drewN n := by
  go_enter Tryd.func27, Tryd.ntmps27
  go_wp2
  go_loopw [7, 8] (fun s i wr => ∃ k : Nat, k ≤ b.length ∧ i = .int .i64 k ∧ s = .int .i64 (corrRTo a b lag k) ∧ ∃ n, wr = w.drewN n) (fun _ i _ => b.length - (intOf i).toNat)
  case atStart => exact ⟨0, Nat.zero_le _, rfl, rfl, 0, rfl⟩
  case round =>
    obtain ⟨k, hk, rfl, rfl, n, rfl⟩ := hrel
    obtain ⟨h5, h6⟩ := corrRTo_bd ha hb lag k
    by_cases hlt : k < b.length
    · by_cases hin : outB ((k : Int) + lag) 0 ((a.length : Int) - 1) = false
      · obtain ⟨g1, g2⟩ := outB_false.1 hin
        obtain ⟨j, hj⟩ : ∃ j : Nat, (k : Int) + lag = j := ⟨((k : Int) + lag).toNat, by omega⟩
        have hja : j < a.length := by omega
        have H : Hid (corrRTo a b lag (k + 1) = corrRTo a b lag k + a[j] * b[k]) := by
          show corrRTo a b lag (k + 1) = _
          rw [corrRTo, if_pos hin, hj, Int.toNat_natCast]
          simp [List.getD, hja, hlt]
        obtain ⟨b1, off1, rfl, _, hc1⟩ := hr.int_at hja
        obtain ⟨b2, off2, rfl, _, hc2⟩ := hs.int_at hlt
        have m1 := ha _ (List.getElem_mem hja)
        have m2 := hb _ (List.getElem_mem hlt)
        obtain ⟨m3, m4⟩ := small_mul m1.1 m1.2 m2.1 m2.2
        rw [hj] at hin
        clear m1 m2
        generalize a[j] = x at hc1 m3 m4 H
        generalize b[k] = y at hc2 m3 m4 H
        generalize corrRTo a b lag k = s at h5 h6 H
        have hw1 : IntKind.i64.wrap ((k : Int) + lag) = j := by rw [hj]; simp (disch := omega) only [IntWalk.i64_in]
        have hw2 : IntKind.i64.wrap ((a.length : Int) - 1) = (a.length : Int) - 1 := by simp (disch := omega) only [IntWalk.i64_in]
        have hnb : (!outB (j : Int) 0 ((a.length : Int) - 1)) = true := by rw [hin]; rfl
        go_wp2_with (first | (go_at_call 26; refine (within_c _ _ _ _).mono ?_; rintro e_ w_ ⟨rfl, rfl⟩; try rw [hj]; try rw [hnb]))
        have ht : ((k : Int) + lag).toNat = j := by omega
        have hg : (k : Int) + lag < (a.length : Int) := by omega
        go_quiet (fail)
        go_wp2
        go_roundw
        case rel => exact ⟨k + 1, by omega, by go_num, by rw [H.out], _, rfl⟩
        case measure => simp [intOf]; omega
      · have H : Hid (corrRTo a b lag (k + 1) = corrRTo a b lag k) := by
          show corrRTo a b lag (k + 1) = _
          rw [corrRTo, if_neg hin]
        have hnb : (!outB ((k : Int) + lag) 0 ((a.length : Int) - 1)) = false := by simpa using hin
        clear hin
        generalize corrRTo a b lag k = s at h5 h6 H
        go_wp2_with (first | (go_at_call 26; refine (within_c _ _ _ _).mono ?_; rintro e_ w_ ⟨rfl, rfl⟩; try rw [hnb]))
        go_roundw
        case rel => exact ⟨k + 1, by omega, by go_num, by rw [H.out], n, rfl⟩
        case measure => simp [intOf]; omega
    · go_wp2
      go_ret
      exact ⟨by rw [show b.length = k from by omega]; rfl, n, rfl⟩

theorem refCorr_c (a b : List Int) (A B : Option Addr) (c d : Nat) (lag : Int) (w : World) (hr : Rd w A (ints a)) (hs : Rd w B (ints b)) (ha : Small a) (hb : Small b) (hl : a.length ≤ 1000) (hab : a.length = b.length) (h1 : -(a.length : Int) ≤ lag) (h2 : lag ≤ a.length) :
    Calls Tryd.prog 27 #[.slice A a.length c, .slice B b.length d, .int .i64 lag] w fun r w' => r = .returned (.int .i64 (corr a b lag)) ∧ ∃ n, w' = w.drewN n := by
  have h := refCorr_to a b A B c d lag w hr hs ha hb hl (by omega) (by omega) (by omega)
  rw [corrRTo_eq a b lag hab h1 h2] at h
  exact h

theorem refSidelobe_c (l : List Int) (A : Option Addr) (c : Nat) (w : World) (hr : Rd w A (ints l)) (hs : Small l) (hl : l.length ≤ 1000) (h1 : 1 ≤ l.length) :
    Calls Tryd.prog 23 #[.slice A l.length c] w fun r w' => r = .returned (.int .i64 (sideTo l (l.length - 1))) ∧ ∃ n, w' = w.drewN n := by
  have HC : Hid (∀ (k : Nat) (W : World), k ≤ l.length → Rd W A (ints l) → Calls Tryd.prog 27 #[.slice A l.length c, .slice A l.length c, .int .i64 k] W fun r w' => r = .returned (.int .i64 (corrN l l k)) ∧ ∃ n, w' = W.drewN n) := fun k W hk hw => by
    have h := refCorr_c l l A A c c k W hw hw hs hs hl rfl (by omega) (by omega)
    rw [show corr l l (k : Int) = corrN l l k from by unfold corr; rw [if_neg (by omega), Int.toNat_natCast]] at h
    exact h
  go_enter Tryd.func23, Tryd.ntmps23
  go_wp2
  go_loopw [3, 4] (fun m i wr => ∃ k : Nat, 1 ≤ k ∧ k ≤ l.length ∧ i = .int .i64 k ∧ m = .int .i64 (sideTo l (k - 1)) ∧ ∃ n, wr = w.drewN n) (fun _ i _ => l.length - (intOf i).toNat)
  case atStart => exact ⟨1, Nat.le_refl _, h1, rfl, rfl, 0, rfl⟩
  case round =>
    obtain ⟨k, hk1, hk, rfl, rfl, n, rfl⟩ := hrel
    by_cases hlt : k < l.length
    · obtain ⟨g1, g2⟩ := corrN_bd hs hs k
      have HS : Hid (sideTo l k = if sideTo l (k - 1) < (if corrN l l k < -(corrN l l k) then -(corrN l l k) else corrN l l k) then (if corrN l l k < -(corrN l l k) then -(corrN l l k) else corrN l l k) else sideTo l (k - 1)) := by
        show _ = _
        rw [sideTo_succ l k hk1]
        generalize corrN l l k = x
        generalize sideTo l (k - 1) = y
        repeat' (first | omega | split)
      have HCk := hide (HC.out k (w.drewN n) hk (hr.drewN n))
      obtain ⟨m, hm⟩ : ∃ m, (if corrN l l k < -(corrN l l k) then -(corrN l l k) else corrN l l k) = m := ⟨_, rfl⟩
      have HM := hide hm
      rw [hm] at HS
      have hmb : -1000 ≤ m ∧ m ≤ 1000 := by rw [← hm]; split <;> omega
      have HZ : Hid (∀ W : World, Calls Tryd.prog 100 #[.int .i64 (corrN l l k)] W fun r w' => r = .returned (.int .i64 m) ∧ W = w') := fun W => by
        have h := size_c (corrN l l k) W (by omega) (by omega)
        rw [hm] at h
        exact h
      clear hm
      generalize corrN l l k = x at g1 g2 HCk HZ
      by_cases hlm : sideTo l (k - 1) < m
      · have HS2 : Hid (sideTo l k = m) := by have := HS.out; rw [if_pos hlm] at this; exact this
        generalize sideTo l (k - 1) = y at hlm
        go_wp2_with (first | (go_at_call 27; refine HCk.out.mono ?_; rintro e w3 ⟨rfl, n3, rfl⟩) | (go_at_call 100; refine (HZ.out _).mono ?_; rintro e w4 ⟨rfl, rfl⟩))
        go_roundw
        case rel => exact ⟨k + 1, by omega, by omega, by go_num, by rw [Nat.add_sub_cancel, HS2.out], _, rfl⟩
        case measure => simp [intOf]; omega
      · have HS2 : Hid (sideTo l k = sideTo l (k - 1)) := by have := HS.out; rw [if_neg hlm] at this; exact this
        have hlm' : m ≤ sideTo l (k - 1) := by omega
        generalize sideTo l (k - 1) = y at hlm hlm' HS2
        go_wp2_with (first | (go_at_call 27; refine HCk.out.mono ?_; rintro e w3 ⟨rfl, n3, rfl⟩) | (go_at_call 100; refine (HZ.out _).mono ?_; rintro e w4 ⟨rfl, rfl⟩))
        go_roundw
        case rel => exact ⟨k + 1, by omega, by omega, by go_num, by rw [Nat.add_sub_cancel, HS2.out], _, rfl⟩
        case measure => simp [intOf]; omega
    · obtain rfl : k = l.length := by omega
      go_wp2
      go_ret
      exact ⟨rfl, n, rfl⟩
end Go.Proofs.YtmedjedmeggbpaaDoor
