/- Contracts of letters, digits and names in package station, and of the statements' own IsName. -/
import Derived.Test.YtohdjhdkmdhhcaaE1
import Derived.Laws.Strings
import Derived.Test.YtohdjhdkmdhhcaaE63
set_option linter.unusedSimpArgs false
set_option linter.unusedVariables false
set_option linter.unusedSimpArgs false
set_option linter.unusedVariables false
namespace Go.Proofs.Ytohdjhdkmdhhcaa
open Go.RowKit
set_option maxRecDepth 100000
def letB (n : Int) : Bool := (decide (97 ≤ n) && decide (n ≤ 122)) || (decide (65 ≤ n) && decide (n ≤ 90))
def digB (n : Int) : Bool := decide (48 ≤ n) && decide (n ≤ 57)
/-- The bytes of a string, as numbers. -/
def byI (s : ByteArray) : List Int := s.data.toList.map fun b => (b.toNat : Int)
def nameB (l : List Int) : Bool := decide (1 ≤ l.length) && decide (l.length ≤ 12) && letB (l.getD 0 0) && l.all fun n => letB n || digB n || n == 45
def nameE (s : ByteArray) : Int := errIf (!nameB (byI s)) 4

theorem byI_len (s : ByteArray) : (byI s).length = s.size := by simp [byI]
theorem byI_at (s : ByteArray) (k : Nat) (h : k < s.size) (h' : k < (byI s).length) : ((s[k]'h).toNat : Int) = (byI s)[k] := by
  simp [byI]; rfl
theorem byI_rg (s : ByteArray) (k : Nat) (h' : k < (byI s).length) : 0 ≤ (byI s)[k] ∧ (byI s)[k] ≤ 255 := by
  simp only [byI, List.getElem_map]
  have := (s.data.toList[k]'(by simpa [byI] using h')).toNat_lt
  omega

theorem isLetter_c (n : Int) (w : World) (h0 : 0 ≤ n) (h1 : n ≤ 255) : Calls Try.prog 95 #[.int .u8 n] w fun r w' => r = .returned (.bool (letB n)) ∧ w = w' := by
  by_cases a : 97 ≤ n <;> by_cases b : n ≤ 122 <;> by_cases c : 65 ≤ n <;> by_cases d : n ≤ 90 <;> (
    first
    | omega
    | (go_enter Try.func95, Try.ntmps95
       go_wp2
       go_ret
       exact ⟨ret_bool (by simp [letB, a, b, c, d]), rfl⟩))
theorem isDigit_c (n : Int) (w : World) (h0 : 0 ≤ n) (h1 : n ≤ 255) : Calls Try.prog 96 #[.int .u8 n] w fun r w' => r = .returned (.bool (digB n)) ∧ w = w' := by
  by_cases a : 48 ≤ n <;> by_cases b : n ≤ 57 <;> (
    first
    | omega
    | (go_enter Try.func96, Try.ntmps96
       go_wp2
       go_ret
       exact ⟨ret_bool (by simp [digB, a, b]), rfl⟩))
theorem nameB_out {l : List Int} (h : outB l.length 1 12 = true) : nameB l = false := by
  simp only [outB, Bool.or_eq_true, decide_eq_true_eq] at h
  simp only [nameB, Bool.and_eq_false_iff, decide_eq_false_iff_not]
  omega
theorem nameB_first {l : List Int} (h : letB (l.getD 0 0) = false) : nameB l = false := by simp only [nameB, h, Bool.and_false, Bool.false_and]
theorem nameB_at {l : List Int} {k : Nat} (hk : k < l.length) (h1 : letB l[k] = false) (h2 : digB l[k] = false) (h3 : (l[k] == 45) = false) : nameB l = false := by
  have : l.all (fun n => letB n || digB n || n == 45) = false := by
    rw [List.all_eq_false]
    exact ⟨l[k], List.getElem_mem hk, by simp [h1, h2, h3]⟩
  simp [nameB, this]
theorem nameB_all {l : List Int} (h0 : outB l.length 1 12 = false) (h1 : letB (l.getD 0 0) = true) (h : ∀ k (hk : k < l.length), (letB l[k] || digB l[k] || l[k] == 45) = true) : nameB l = true := by
  simp only [outB, Bool.or_eq_false_iff, decide_eq_false_iff_not] at h0
  have : l.all (fun n => letB n || digB n || n == 45) = true := by
    rw [List.all_eq_true]
    intro x hx
    obtain ⟨k, hk, rfl⟩ := List.getElem_of_mem hx
    exact h k hk
  simp only [nameB, h1, this, Bool.and_true, Bool.and_eq_true, decide_eq_true_eq]
  omega

set_option maxHeartbeats 2000000 in
theorem isName_c (s : ByteArray) (w : World) (hs : s.size ≤ 1000) : Calls Try.prog 82 #[.string s] w fun r w' => r = .returned (.bool (nameB (byI s))) ∧ w = w' := by
  have HL := byI_len s
  by_cases ho : outB (s.size : Int) 1 12 = true
  · have e : Hid (nameB (byI s) = false) := nameB_out (by rw [HL]; exact ho)
    go_enter Try.func82, Try.ntmps82
    go_wp2_with
      (first | (go_at_call 70; refine (outside_c _ _ _ _).mono ?_; rintro e_ w_ ⟨rfl, rfl⟩) | (go_at_call 95; refine (isLetter_c _ _ (by omega) (by omega)).mono ?_; rintro e_ w_ ⟨rfl, rfl⟩) | (go_at_call 96; refine (isDigit_c _ _ (by omega) (by omega)).mono ?_; rintro e_ w_ ⟨rfl, rfl⟩))
    go_ret
    exact ⟨ret_bool e.out.symm, rfl⟩
  · have ho := eq_false_of_ne_true ho
    have h0 : 0 < s.size := by simp [outB] at ho; omega
    have e0 := byI_at s 0 h0 (by omega)
    have g0 := byI_rg s 0 (by omega)
    rw [← e0] at g0
    have d0 : (byI s).getD 0 0 = (s[0].toNat : Int) := by rw [e0, List.getD, List.getElem?_eq_getElem (by omega)]; rfl
    by_cases hf : letB (s[0].toNat : Int) = false
    · have e : Hid (nameB (byI s) = false) := nameB_first (by rw [d0]; exact hf)
      clear d0 e0
      go_enter Try.func82, Try.ntmps82
      go_wp2_with
        (first | (go_at_call 70; refine (outside_c _ _ _ _).mono ?_; rintro e_ w_ ⟨rfl, rfl⟩) | (go_at_call 95; refine (isLetter_c _ _ (by omega) (by omega)).mono ?_; rintro e_ w_ ⟨rfl, rfl⟩) | (go_at_call 96; refine (isDigit_c _ _ (by omega) (by omega)).mono ?_; rintro e_ w_ ⟨rfl, rfl⟩))
      go_ret
      exact ⟨ret_bool e.out.symm, rfl⟩
    · have hf := eq_true_of_ne_false hf
      have HO := hide (show outB ((byI s).length : Int) 1 12 = false by rw [HL]; exact ho)
      have HF := hide (show letB ((byI s).getD 0 0) = true by rw [d0]; exact hf)
      clear d0 e0
      go_enter Try.func82, Try.ntmps82
      go_wp2_with
        (first | (go_at_call 70; refine (outside_c _ _ _ _).mono ?_; rintro e_ w_ ⟨rfl, rfl⟩) | (go_at_call 95; refine (isLetter_c _ _ (by omega) (by omega)).mono ?_; rintro e_ w_ ⟨rfl, rfl⟩) | (go_at_call 96; refine (isDigit_c _ _ (by omega) (by omega)).mono ?_; rintro e_ w_ ⟨rfl, rfl⟩))
      clear g0 hf ho
      go_loop [15] (fun i => ∃ k : Nat, k ≤ s.size ∧ i = .int .i64 k ∧ Hid (∀ j (h : j < (byI s).length), j < k → (letB (byI s)[j] || digB (byI s)[j] || (byI s)[j] == 45) = true)) (fun i => s.size - (intOf i).toNat)
      case atStart => exact ⟨0, Nat.zero_le _, rfl, fun _ _ h => by omega⟩
      case round =>
        obtain ⟨k, hk, rfl, hp⟩ := hrel
        by_cases hlt : k < s.size
        · have ek := byI_at s k hlt (by omega)
          have gk := byI_rg s k (by omega)
          rw [← ek] at gk
          have HN : Hid ((letB (byI s)[k] || digB (byI s)[k] || (byI s)[k] == 45) = true → ∀ j (h : j < (byI s).length), j < k + 1 → (letB (byI s)[j] || digB (byI s)[j] || (byI s)[j] == 45) = true) := fun hh j h hj => by
            by_cases e : j = k
            · subst e; exact hh
            · exact hp.out j h (by omega)
          by_cases a : letB (s[k].toNat : Int) = true
          · have HR := hide (HN.out (by rw [← ek, a]; rfl))
            clear HN ek
            go_wp2_with
              (first | (go_at_call 70; refine (outside_c _ _ _ _).mono ?_; rintro e_ w_ ⟨rfl, rfl⟩) | (go_at_call 95; refine (isLetter_c _ _ (by omega) (by omega)).mono ?_; rintro e_ w_ ⟨rfl, rfl⟩) | (go_at_call 96; refine (isDigit_c _ _ (by omega) (by omega)).mono ?_; rintro e_ w_ ⟨rfl, rfl⟩))
            go_round
            case rel => exact ⟨k + 1, by omega, by go_num, HR⟩
            case measure => simp [intOf]; omega
          · have a := eq_false_of_ne_true a
            by_cases b : digB (s[k].toNat : Int) = true
            · have HR := hide (HN.out (by rw [← ek, a, b]; rfl))
              clear HN ek
              go_wp2_with
                (first | (go_at_call 70; refine (outside_c _ _ _ _).mono ?_; rintro e_ w_ ⟨rfl, rfl⟩) | (go_at_call 95; refine (isLetter_c _ _ (by omega) (by omega)).mono ?_; rintro e_ w_ ⟨rfl, rfl⟩) | (go_at_call 96; refine (isDigit_c _ _ (by omega) (by omega)).mono ?_; rintro e_ w_ ⟨rfl, rfl⟩))
              go_round
              case rel => exact ⟨k + 1, by omega, by go_num, HR⟩
              case measure => simp [intOf]; omega
            · have b := eq_false_of_ne_true b
              by_cases c : (s[k].toNat : Int) = 45
              · have HR := hide (HN.out (by rw [← ek, c]; simp))
                clear HN ek
                have c' : ((s[k].toNat : Int) != 45) = false := by simp [c]
                clear c
                go_wp2_with
                  (first | (go_at_call 70; refine (outside_c _ _ _ _).mono ?_; rintro e_ w_ ⟨rfl, rfl⟩) | (go_at_call 95; refine (isLetter_c _ _ (by omega) (by omega)).mono ?_; rintro e_ w_ ⟨rfl, rfl⟩) | (go_at_call 96; refine (isDigit_c _ _ (by omega) (by omega)).mono ?_; rintro e_ w_ ⟨rfl, rfl⟩))
                go_round
                case rel => exact ⟨k + 1, by omega, by go_num, HR⟩
                case measure => simp [intOf]; omega
              · have e : Hid (nameB (byI s) = false) := nameB_at (k := k) (by omega) (by rw [← ek]; exact a) (by rw [← ek]; exact b) (by rw [← ek]; simpa using c)
                clear HN ek
                have c' : ((s[k].toNat : Int) != 45) = true := by simpa using c
                go_wp2_with
                  (first | (go_at_call 70; refine (outside_c _ _ _ _).mono ?_; rintro e_ w_ ⟨rfl, rfl⟩) | (go_at_call 95; refine (isLetter_c _ _ (by omega) (by omega)).mono ?_; rintro e_ w_ ⟨rfl, rfl⟩) | (go_at_call 96; refine (isDigit_c _ _ (by omega) (by omega)).mono ?_; rintro e_ w_ ⟨rfl, rfl⟩))
                go_ret
                exact ⟨ret_bool e.out.symm, rfl⟩
        · have e : Hid (nameB (byI s) = true) := nameB_all HO.out HF.out fun j hj => hp.out j hj (by omega)
          go_wp2
          go_ret
          exact ⟨ret_bool e.out.symm, rfl⟩
theorem nameError_c (s : ByteArray) (w : World) (hs : s.size ≤ 1000) : Calls Try.prog 63 #[.string s] w fun r w' => r = .returned (.int .i64 (nameE s)) ∧ w = w' := by
  go_enter Try.func63, Try.ntmps63
  go_wp2_with (first | (go_at_call 82; refine (isName_c _ _ hs).mono ?_; rintro e_ w_ ⟨rfl, rfl⟩) | (go_at_call 42; refine (errorIf_c _ _ _).mono ?_; rintro e_ w_ ⟨rfl, rfl⟩))
  go_ret
  exact ⟨rfl, rfl⟩

theorem letB_iff (n : Int) : letB n = true ↔ (97 ≤ n ∧ n ≤ 122) ∨ (65 ≤ n ∧ n ≤ 90) := by simp [letB]
theorem digB_iff (n : Int) : digB n = true ↔ 48 ≤ n ∧ n ≤ 57 := by simp [digB]
/-- A byte that a name may hold at this place. -/
def atB (k : Nat) (n : Int) : Bool := letB n || (!(k == 0) && (n == 45 || digB n))
theorem nameB_by {l : List Int} (h0 : outB l.length 1 12 = false) (h : ∀ k (hk : k < l.length), atB k l[k] = true) : nameB l = true := by
  have h1 : 0 < l.length := by simp only [outB, Bool.or_eq_false_iff, decide_eq_false_iff_not] at h0; omega
  have h2 := h 0 h1
  refine nameB_all h0 ?_ fun k hk => ?_
  · rw [List.getD, List.getElem?_eq_getElem h1]
    simpa [atB] using h2
  · have h3 := h k hk
    simp only [atB, Bool.or_eq_true, Bool.and_eq_true] at h3 ⊢
    rcases h3 with h3 | ⟨_, h3 | h3⟩
    · exact .inl (.inl h3)
    · exact .inr h3
    · exact .inl (.inr h3)
theorem nameB_not {l : List Int} {k : Nat} (hk : k < l.length) (h : atB k l[k] = false) : nameB l = false := by
  simp only [atB, Bool.or_eq_false_iff, Bool.and_eq_false_iff] at h
  by_cases h0 : k = 0
  · subst h0
    refine nameB_first ?_
    rw [List.getD, List.getElem?_eq_getElem hk]
    exact h.1
  · have h1 : ((k == 0) = false) := by simpa using h0
    rw [h1] at h
    have h2 := h.2.resolve_left (by simp)
    exact nameB_at hk h.1 h2.2 h2.1
set_option maxHeartbeats 2000000 in
theorem refIsName_c (s : ByteArray) (w : World) (hs : s.size ≤ 1000) : Calls Try.prog 69 #[.string s] w fun r w' => r = .returned (.bool (nameB (byI s))) ∧ w = w' := by
  have HL := byI_len s
  by_cases ho : outB (s.size : Int) 1 12 = true
  · have e : Hid (nameB (byI s) = false) := nameB_out (by rw [HL]; exact ho)
    by_cases h1 : s.size < 1
    · have e1 : decide ((s.size : Int) < 1) = true := decide_eq_true (by omega)
      have e1' : (s.size : Int) < 1 := by omega
      go_enter Try.func69, Try.ntmps69
      go_wp2
      go_ret
      exact ⟨ret_bool e.out.symm, rfl⟩
    · have e1 : decide ((s.size : Int) < 1) = false := decide_eq_false (by omega)
      have e1' : ¬ (s.size : Int) < 1 := by omega
      have e2' : (12 : Int) < (s.size : Int) := by simp [outB] at ho; omega
      have e2 : decide ((12 : Int) < (s.size : Int)) = true := decide_eq_true e2'
      go_enter Try.func69, Try.ntmps69
      go_wp2
      go_ret
      exact ⟨ret_bool e.out.symm, rfl⟩
  · have ho := eq_false_of_ne_true ho
    have HO := hide (show outB ((byI s).length : Int) 1 12 = false by rw [HL]; exact ho)
    have e1' : ¬ (s.size : Int) < 1 := by simp [outB] at ho; omega
    have e2' : ¬ (12 : Int) < (s.size : Int) := by simp [outB] at ho; omega
    have e1 : decide ((s.size : Int) < 1) = false := decide_eq_false e1'
    have e2 : decide ((12 : Int) < (s.size : Int)) = false := decide_eq_false e2'
    go_enter Try.func69, Try.ntmps69
    go_wp2
    clear e1 e2 e1' e2' ho
    go_loop [3] (fun i => ∃ k : Nat, k ≤ s.size ∧ i = .int .i64 k ∧ Hid (∀ j (h : j < (byI s).length), j < k → atB j (byI s)[j] = true)) (fun i => s.size - (intOf i).toNat)
    case atStart => exact ⟨0, Nat.zero_le _, rfl, fun _ _ h => by omega⟩
    case round =>
      obtain ⟨k, hk, rfl, hp⟩ := hrel
      by_cases hlt : k < s.size
      · have ek := byI_at s k hlt (by omega)
        have gk := byI_rg s k (by omega)
        rw [← ek] at gk
        have HN : Hid (atB k (byI s)[k] = true → ∀ j (h : j < (byI s).length), j < k + 1 → atB j (byI s)[j] = true) := fun hh j h hj => by
          by_cases e : j = k
          · subst e; exact hh
          · exact hp.out j h (by omega)
        obtain a | a | a | a | a := (show (97 ≤ (s[k].toNat : Int) ∧ (s[k].toNat : Int) ≤ 122) ∨ (65 ≤ (s[k].toNat : Int) ∧ (s[k].toNat : Int) ≤ 90) ∨ (s[k].toNat : Int) < 65 ∨ (90 < (s[k].toNat : Int) ∧ (s[k].toNat : Int) < 97) ∨ 122 < (s[k].toNat : Int) by omega)
        · have a1 : 97 ≤ (s[k].toNat : Int) := by omega
          have a2 : (s[k].toNat : Int) ≤ 122 := by omega
          clear gk
          have HR := hide (HN.out (by rw [← ek]; simp [atB, letB, digB]; omega))
          clear HN ek
          go_wp2
          go_round
          case rel => exact ⟨k + 1, by omega, by go_num, HR⟩
          case measure => simp [intOf]; omega
        · have a1 : ¬ 97 ≤ (s[k].toNat : Int) := by omega
          have a3 : 65 ≤ (s[k].toNat : Int) := by omega
          have a4 : (s[k].toNat : Int) ≤ 90 := by omega
          clear gk
          have HR := hide (HN.out (by rw [← ek]; simp [atB, letB, digB]; omega))
          clear HN ek
          go_wp2
          go_round
          case rel => exact ⟨k + 1, by omega, by go_num, HR⟩
          case measure => simp [intOf]; omega
        · have a1 : ¬ 97 ≤ (s[k].toNat : Int) := by omega
          have a3 : ¬ 65 ≤ (s[k].toNat : Int) := by omega
          by_cases hz : k = 0
          · have hz1 : ((k : Int) == 0) = true := by simpa using hz
            have hz2 : (k == 0) = true := by simpa using hz
            have e : Hid (nameB (byI s) = false) := nameB_not (k := k) (by omega) (by rw [← ek]; unfold atB; rw [hz2]; simp [letB]; omega)
            clear ek hz HN gk
            go_wp2
            go_ret
            exact ⟨ret_bool e.out.symm, rfl⟩
          · have hz1 : ((k : Int) == 0) = false := by simp; omega
            have hz2 : (k == 0) = false := by simpa using hz
            by_cases h45 : (s[k].toNat : Int) = 45
            · have b1 : ((s[k].toNat : Int) != 45) = false := by simp [h45]
              have HR := hide (HN.out (by rw [← ek, h45]; simp [atB, letB, digB, hz]))
              clear HN ek gk hz h45
              go_wp2
              go_round
              case rel => exact ⟨k + 1, by omega, by go_num, HR⟩
              case measure => simp [intOf]; omega
            · have b1 : ((s[k].toNat : Int) != 45) = true := by simpa using h45
              obtain d | d | d := (show (s[k].toNat : Int) < 48 ∨ (48 ≤ (s[k].toNat : Int) ∧ (s[k].toNat : Int) ≤ 57) ∨ 57 < (s[k].toNat : Int) by omega)
              · have e : Hid (nameB (byI s) = false) := nameB_not (k := k) (by omega) (by rw [← ek]; simp [atB, letB, digB, hz]; omega)
                have d1 : (s[k].toNat : Int) < 48 := d
                clear ek hz HN gk h45
                go_wp2
                go_ret
                exact ⟨ret_bool e.out.symm, rfl⟩
              · have d1 : ¬ (s[k].toNat : Int) < 48 := by omega
                have d2 : ¬ 57 < (s[k].toNat : Int) := by omega
                have HR := hide (HN.out (by rw [← ek]; simp [atB, letB, digB, hz]; omega))
                clear HN ek gk hz h45
                go_wp2
                go_round
                case rel => exact ⟨k + 1, by omega, by go_num, HR⟩
                case measure => simp [intOf]; omega
              · have e : Hid (nameB (byI s) = false) := nameB_not (k := k) (by omega) (by rw [← ek]; simp [atB, letB, digB, hz]; omega)
                have d1 : ¬ (s[k].toNat : Int) < 48 := by omega
                have d2 : 57 < (s[k].toNat : Int) := d
                clear ek hz HN gk h45
                go_wp2
                go_ret
                exact ⟨ret_bool e.out.symm, rfl⟩
        · have a1 : ¬ 97 ≤ (s[k].toNat : Int) := by omega
          have a3 : 65 ≤ (s[k].toNat : Int) := by omega
          have a4 : ¬ (s[k].toNat : Int) ≤ 90 := by omega
          have b1 : ((s[k].toNat : Int) != 45) = true := by simp; omega
          have d1 : ¬ (s[k].toNat : Int) < 48 := by omega
          have d2 : 57 < (s[k].toNat : Int) := by omega
          by_cases hz : k = 0
          · have hz1 : ((k : Int) == 0) = true := by simpa using hz
            have hz2 : (k == 0) = true := by simpa using hz
            have e : Hid (nameB (byI s) = false) := nameB_not (k := k) (by omega) (by rw [← ek]; unfold atB; rw [hz2]; simp [letB]; omega)
            clear ek hz HN gk
            go_wp2
            go_ret
            exact ⟨ret_bool e.out.symm, rfl⟩
          · have hz1 : ((k : Int) == 0) = false := by simp; omega
            have hz2 : (k == 0) = false := by simpa using hz
            have e : Hid (nameB (byI s) = false) := nameB_not (k := k) (by omega) (by rw [← ek]; simp [atB, letB, digB, hz]; omega)
            clear ek hz HN gk
            go_wp2
            go_ret
            exact ⟨ret_bool e.out.symm, rfl⟩
        · have a1 : 97 ≤ (s[k].toNat : Int) := by omega
          have a2 : ¬ (s[k].toNat : Int) ≤ 122 := by omega
          have a3 : 65 ≤ (s[k].toNat : Int) := by omega
          have a4 : ¬ (s[k].toNat : Int) ≤ 90 := by omega
          have b1 : ((s[k].toNat : Int) != 45) = true := by simp; omega
          have d1 : ¬ (s[k].toNat : Int) < 48 := by omega
          have d2 : 57 < (s[k].toNat : Int) := by omega
          by_cases hz : k = 0
          · have hz1 : ((k : Int) == 0) = true := by simpa using hz
            have hz2 : (k == 0) = true := by simpa using hz
            have e : Hid (nameB (byI s) = false) := nameB_not (k := k) (by omega) (by rw [← ek]; unfold atB; rw [hz2]; simp [letB]; omega)
            clear ek hz HN gk
            go_wp2
            go_ret
            exact ⟨ret_bool e.out.symm, rfl⟩
          · have hz1 : ((k : Int) == 0) = false := by simp; omega
            have hz2 : (k == 0) = false := by simpa using hz
            have e : Hid (nameB (byI s) = false) := nameB_not (k := k) (by omega) (by rw [← ek]; simp [atB, letB, digB, hz]; omega)
            clear ek hz HN gk
            go_wp2
            go_ret
            exact ⟨ret_bool e.out.symm, rfl⟩
      · have e : Hid (nameB (byI s) = true) := nameB_by HO.out fun j hj => hp.out j hj (by omega)
        go_wp2
        go_ret
        exact ⟨ret_bool e.out.symm, rfl⟩
end Go.Proofs.Ytohdjhdkmdhhcaa
