/- Contracts: a correlation that is asked for. -/
import Derived.Test.YtmedjedmeggbpaaDoorW20
import Derived.Test.YtmedjedmeggbpaaDoorW4
import Derived.Test.YtmedjedmeggbpaaDoorW5
namespace Go.Proofs.YtmedjedmeggbpaaDoor
open Go.RowKit
set_option maxRecDepth 100000

/-- The error of a correlation. -/
def corrE (a b : List Int) (lag : Int) : Int := firstE [codeE a, codeE b, errIf ((a.length : Int) != (b.length : Int)) 10, errIf (outB lag (1 - (a.length : Int)) ((a.length : Int) - 1)) 2]

theorem firstE_zero : ∀ {l : List Int}, firstE l = 0 → ∀ e ∈ l, e = 0
  | [], _, e, h => absurd h (by simp)
  | e :: l, h, x, hx => by
    unfold firstE at h
    by_cases he : e = 0
    · rw [if_pos he] at h
      rcases List.mem_cons.1 hx with rfl | hx
      · exact he
      · exact firstE_zero h x hx
    · rw [if_neg he] at h; exact absurd h he
theorem errIf_zero {b : Bool} {e : Int} (he : e ≠ 0) (h : errIf b e = 0) : b = false := by
  cases b
  · rfl
  · exact absurd h he
theorem corrE_zero {a b : List Int} {lag : Int} (h : corrE a b lag = 0) : codeE a = 0 ∧ codeE b = 0 ∧ a.length = b.length ∧ 1 - (a.length : Int) ≤ lag ∧ lag ≤ (a.length : Int) - 1 := by
  have h0 := firstE_zero h
  have h1 := errIf_zero (by decide) (h0 (errIf ((a.length : Int) != (b.length : Int)) 10) (by simp))
  have h2 := outB_false.1 (errIf_zero (by decide) (h0 (errIf (outB lag (1 - (a.length : Int)) ((a.length : Int) - 1)) 2) (by simp)))
  refine ⟨h0 _ (by simp), h0 (codeE b) (by simp), ?_, h2.1, h2.2⟩
  have : (a.length : Int) = (b.length : Int) := by simpa using h1
  omega

theorem correlationAt_c (a b : List Int) (A B : Option Addr) (c d : Nat) (lag : Int) (w : World) (hr : Rd w A (ints a)) (hs : Rd w B (ints b)) (hl : a.length ≤ 1000) (hl2 : b.length ≤ 1000) :
    Calls Tryd.prog 17 #[.slice A a.length c, .slice B b.length d, .int .i64 lag] w fun r w' =>
      r = .returned (.tuple #[.int .i64 (if corrE a b lag = 0 then corr a b lag else 0), .int .i64 (corrE a b lag)]) ∧ Below w.heap.size w w' := by
  have HF : Hid (firstE [codeE a, codeE b, errIf ((a.length : Int) != (b.length : Int)) 10, errIf (outB lag (1 - (a.length : Int)) ((a.length : Int) - 1)) 2] = corrE a b lag) := rfl
  by_cases h0 : corrE a b lag = 0
  · obtain ⟨q1, q2, q3, q4, q5⟩ := corrE_zero h0
    have HS1 := hide (small_of_code q1)
    have HS2 := hide (small_of_code q2)
    have e1 : (corrE a b lag != 0) = false := by simpa using h0
    have H0 := hide h0
    have H3 := hide q3
    have HL : Hid (-(a.length : Int) ≤ lag ∧ lag ≤ a.length) := ⟨by omega, by omega⟩
    rw [if_pos h0]
    clear h0 q1 q2 q3 q4 q5
    go_enter Tryd.func17, Tryd.ntmps17
    go_upto_region 2 with (first
      | (go_at_call 22; have _g := hb1; refine (checkCode_c b B d _ ((hs.bel hb1)) hl2).mono ?_; rintro e w2 ⟨rfl, hb2⟩)
      | (go_at_call 22; refine (checkCode_c a A c _ hr hl).mono ?_; rintro e w1 ⟨rfl, hb1⟩)
      | (go_at_call 93; refine (errorIf_c _ _ _).mono ?_; rintro e_ w_ ⟨rfl, rfl⟩) | (go_at_call 94; refine (outside_c _ _ _ _).mono ?_; rintro e_ w_ ⟨rfl, rfl⟩)
      | (go_at_call 92; refine (firstError_4 _ _ _ _ _).mono ?_; rintro e_ w_ ⟨rfl, rfl⟩))
    rw [HF.out]
    go_wp2_with (first | (go_at_call 95; refine (corr_c a b A B c d lag _ ?_ ?_ HS1.out HS2.out hl H3.out HL.out.1 HL.out.2).mono ?_; exact ((hr.bel hb1).bel hb2).bel ((Below.refl _ _).alloc (Nat.le_refl _) _); exact ((hs.bel hb1).bel hb2).bel ((Below.refl _ _).alloc (Nat.le_refl _) _); rintro e w3 ⟨rfl, n3, rfl⟩))
    go_ret2
    exact ⟨by rw [H0.out]; rfl, below_drewN ((tr hb1 hb2 hb1.size).alloc (by have := hb1.size; have := hb2.size; omega) _) _⟩
  · have e1 : (corrE a b lag != 0) = true := by simpa using h0
    rw [if_neg h0]
    clear h0
    go_enter Tryd.func17, Tryd.ntmps17
    go_upto_region 2 with (first
      | (go_at_call 22; have _g := hb1; refine (checkCode_c b B d _ ((hs.bel hb1)) hl2).mono ?_; rintro e w2 ⟨rfl, hb2⟩)
      | (go_at_call 22; refine (checkCode_c a A c _ hr hl).mono ?_; rintro e w1 ⟨rfl, hb1⟩)
      | (go_at_call 93; refine (errorIf_c _ _ _).mono ?_; rintro e_ w_ ⟨rfl, rfl⟩) | (go_at_call 94; refine (outside_c _ _ _ _).mono ?_; rintro e_ w_ ⟨rfl, rfl⟩)
      | (go_at_call 92; refine (firstError_4 _ _ _ _ _).mono ?_; rintro e_ w_ ⟨rfl, rfl⟩))
    rw [HF.out]
    go_wp2
    go_ret2
    exact ⟨rfl, (tr hb1 hb2 hb1.size).alloc (by have := hb1.size; have := hb2.size; omega) _⟩
end Go.Proofs.YtmedjedmeggbpaaDoor
