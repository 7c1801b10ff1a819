/- Contracts: codes, comparisons of slices, chirps. -/
import Derived.Test.YtmedjedmeggbpaaDoorW1
namespace Go.Proofs.YtmedjedmeggbpaaDoor
open Go.RowKit
set_option maxRecDepth 100000

/-- A contract of a function that leaves the world as it was, as one of a closure without captured variables. -/
theorem closed_of {f : FuncId} {args : Array Value} {w : World} {v : Value} (h : Calls Tryd.prog f args w fun r w' => r = .returned v ∧ w = w') :
    Calls Tryd.prog f (args ++ #[]) w fun r w' => r = .returned v ∧ Below w.heap.size w w' := by
  rw [Array.append_empty]
  exact h.mono fun _ _ ⟨h1, h2⟩ => ⟨h1, by subst h2; exact Below.refl _ _⟩

theorem checkCode_c (l : List Int) (A : Option Addr) (c : Nat) (w : World) (hr : Rd w A (ints l)) (hl : l.length ≤ 1000) :
    Calls Tryd.prog 22 #[.slice A l.length c] w fun r w' => r = .returned (.int .i64 (codeE l)) ∧ Below w.heap.size w w' := by
  by_cases h0 : lenE l.length 32 = 0
  · have e1 : (lenE l.length 32 != 0) = false := by simpa using h0
    have H : Hid (codeE l = (firstBadFrom (fun _ n => codeItem n) 0 l).2) := by show codeE l = _; unfold codeE; rw [if_pos h0]
    clear h0
    go_enter Tryd.func22, Tryd.ntmps22
    go_wp2_with (first
      | (go_at_call 97; refine (lengthError_c _ _ _).mono ?_; rintro e w1 ⟨rfl, hb1⟩)
      | (go_at_call 98; refine (firstBadInt_c (fun _ n => codeItem n) _ l _ _ _ _ (hr.bel hb1) hl Tryd.call99 (fun k h W _ => closed_of (checkCode1_c _ _ _))).mono ?_; rintro e w2 ⟨rfl, hb2⟩))
    go_ret
    exact ⟨by rw [H.out]; rfl, tr hb1 hb2 hb1.size⟩
  · have e1 : (lenE l.length 32 != 0) = true := by simpa using h0
    have H : Hid (codeE l = lenE l.length 32) := by show codeE l = _; unfold codeE; rw [if_neg h0]
    clear h0
    go_enter Tryd.func22, Tryd.ntmps22
    go_wp2_with (first
      | (go_at_call 97; refine (lengthError_c _ _ _).mono ?_; rintro e w1 ⟨rfl, hb1⟩))
    go_ret
    exact ⟨by rw [H.out]; rfl, hb1⟩

theorem within_c (n lo hi : Int) (w : World) : Calls Tryd.prog 26 #[.int .i64 n, .int .i64 lo, .int .i64 hi] w fun r w' => r = .returned (.bool !(outB n lo hi)) ∧ w = w' := by
  by_cases h1 : n < lo
  · go_enter Tryd.func26, Tryd.ntmps26
    go_wp2
    go_ret
    exact ⟨ret_bool (by rw [Bool.eq_iff_iff]; simp [outB]; omega), rfl⟩
  · go_enter Tryd.func26, Tryd.ntmps26
    go_wp2
    go_ret
    exact ⟨ret_bool (by rw [Bool.eq_iff_iff]; simp [outB]; omega), rfl⟩

/-- The equality of two slices of numbers. -/
theorem ints_c (l m : List Int) (A B : Option Addr) (c d : Nat) (w : World) (hr : Rd w A (ints l)) (hs : Rd w B (ints m)) (hl : l.length ≤ 1000) :
    Calls Tryd.prog 31 #[.slice A l.length c, .slice B m.length d] w fun r w' => r = .returned (.bool (decide (l = m))) ∧ Below w.heap.size w w' := by
  by_cases hn : l.length = m.length
  · have e1 : ((l.length : Int) != (m.length : Int)) = false := by simp; omega
    have hm : m.length ≤ 1000 := by omega
    have HN := hide hn
    clear hn
    go_enter Tryd.func31, Tryd.ntmps31
    go_wp2
    go_loopw [5] (fun i wr => ∃ k : Nat, k ≤ l.length ∧ i = .int .i64 k ∧ Below w.heap.size w wr ∧ Hid (∀ j (h : j < l.length) (h' : j < m.length), j < k → l[j] = m[j])) (fun i _ => l.length - (intOf i).toNat)
    case atStart => exact ⟨0, Nat.zero_le _, rfl, Below.refl _ _, fun _ _ _ h => by omega⟩
    case round =>
      obtain ⟨k, hk, rfl, hb, h0⟩ := hrel
      by_cases hlt : k < l.length
      · have hlt' : k < m.length := by have := HN.out; omega
        obtain ⟨b, off, rfl, hblt, hc0⟩ := (hr.bel hb).int_at hlt
        obtain ⟨b', off', rfl, hblt', hc0'⟩ := (hs.bel hb).int_at hlt'
        by_cases hz : l[k] = m[k]
        · have e2 : (l[k] != m[k]) = false := by simpa using hz
          have H1 : Hid (∀ j (h : j < l.length) (h' : j < m.length), j < k + 1 → l[j] = m[j]) := fun j h h' hj => by
            by_cases e : j = k
            · subst e; exact hz
            · exact h0.out j h h' (by omega)
          clear hz
          go_wp2
          go_quiet (fail)
          go_wp2
          go_roundw
          case rel => exact ⟨k + 1, by omega, by go_num, below_drewN hb _, H1⟩
          case measure => simp [intOf]; omega
        · have e2 : (l[k] != m[k]) = true := by simpa using hz
          have H : Hid (decide (l = m) = false) := by show decide (l = m) = false; simp; rintro rfl; exact hz rfl
          clear hz
          go_wp2
          go_quiet (fail)
          go_wp2
          go_ret
          exact ⟨by rw [H.out]; rfl, below_drewN hb _⟩
      · have H : Hid (decide (l = m) = true) := by
          show decide (l = m) = true
          simp
          refine List.ext_getElem HN.out fun j h h' => h0.out j h h' (by omega)
        go_wp2
        go_ret
        exact ⟨by rw [H.out]; rfl, hb⟩
  · have H : Hid (decide (l = m) = false) := by show decide (l = m) = false; simp; rintro rfl; exact hn rfl
    have e1 : ((l.length : Int) != (m.length : Int)) = true := by simp; omega
    clear hn
    go_enter Tryd.func31, Tryd.ntmps31
    go_wp2
    go_ret
    exact ⟨by rw [H.out]; rfl, Below.refl _ _⟩

theorem checkChirp_c (s n d : Int) (w : World) : Calls Tryd.prog 48 #[.agg #[.int .i64 s, .int .i64 n, .int .i64 d]] w fun r w' => r = .returned (.int .i64 (chirpE s n d)) ∧ Below w.heap.size w w' := by
  have H : Hid (chirpE s n d = errIf (outB s 0 100000 || (outB n 0 1000 || outB d 1 1000)) 2) := by
    show chirpE s n d = _
    unfold chirpE errIf
    simp only [Bool.or_eq_true, outB_true]
    congr 1
    simp only [eq_iff_iff]
    omega
  generalize h1 : outB s 0 100000 = b1 at H
  generalize h2 : outB n 0 1000 = b2 at H
  generalize h3 : outB d 1 1000 = b3 at H
  cases b1 <;> cases b2 <;> cases b3 <;> (
    go_enter Tryd.func48, Tryd.ntmps48
    go_wp2_with (first | (go_at_call 94; refine (outside_c _ _ _ _).mono ?_; rintro e w' ⟨rfl, rfl⟩) | (go_at_call 93; refine (errorIf_c _ _ _).mono ?_; rintro e w' ⟨rfl, rfl⟩))
    go_ret
    exact ⟨by rw [H.out]; rfl, (Below.refl _ _).alloc (Nat.le_refl _) _⟩)

theorem frequency_c (s n d t : Int) (w : World) (h1 : 0 ≤ s) (h2 : s ≤ 100000) (h3 : 0 ≤ n) (h4 : n ≤ 1000) (h5 : 1 ≤ d) (h6 : d ≤ 1000) (h7 : 0 ≤ t) (h8 : t ≤ 1000000) :
    Calls Tryd.prog 108 #[.agg #[.int .i64 s, .int .i64 n, .int .i64 d], .int .i64 t] w fun r w' => r = .returned (.int .i64 (freq s n d t)) ∧ Below w.heap.size w w' := by
  have hp : t * n ≤ 1000000 * 1000 := Int.mul_le_mul h8 h4 h3 (by omega)
  have hp0 : 0 ≤ t * n := Int.mul_nonneg h7 h3
  have hq0 : 0 ≤ t * n / d := Int.ediv_nonneg hp0 (by omega)
  have hq : t * n / d ≤ t * n := Int.ediv_le_self _ hp0
  go_enter Tryd.func108, Tryd.ntmps108
  have e1 : (d == 0) = false := by simp; omega
  go_wp2
  go_quiet (fail)
  go_wp2
  go_ret
  exact ⟨rfl, below_drewN ((Below.refl _ _).alloc (Nat.le_refl _) _) _⟩
end Go.Proofs.YtmedjedmeggbpaaDoor
