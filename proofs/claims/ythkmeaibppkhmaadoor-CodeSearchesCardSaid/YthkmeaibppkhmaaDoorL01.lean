/- The law CodeCorrelations: the call returns true, and nothing that was there turns. Condition: the laid table. -/
import Derived.Test.YthkmeaibppkhmaaDoorMF
import Derived.Test.YthkmeaibppkhmaaDoorL05
namespace Go.Proofs.YthkmeaibppkhmaaDoor
open Go.RowKit
set_option maxRecDepth 100000

theorem corrE_of {a b : List Int} {lag E : Int} (h : firstE [codeE a, codeE b, errIf ((a.length : Int) != (b.length : Int)) 10, errIf (outB lag (1 - (a.length : Int)) ((a.length : Int) - 1)) 2] = E) : corrE a b lag = E := h
theorem corrAt_no {a b : List Int} {lag E : Int} (h : corrE a b lag = E) (hE : E ≠ 0) (A B : Option Addr) (c d : Nat) (w : World) (hr : Rd w A (ints a)) (hs : Rd w B (ints b)) (hl : a.length ≤ 1000) (hl2 : b.length ≤ 1000) :
    Calls Tryd.prog 17 #[.slice A a.length c, .slice B b.length d, .int .i64 lag] w fun r w' => r = .returned (.tuple #[.int .i64 0, .int .i64 E]) ∧ Below w.heap.size w w' := by
  have h1 := correlationAt_c a b A B c d lag w hr hs hl hl2
  rw [h, if_neg hE] at h1
  exact h1
theorem corrAt_yes {a b : List Int} {lag : Int} (h : corrE a b lag = 0) (A B : Option Addr) (c d : Nat) (w : World) (hr : Rd w A (ints a)) (hs : Rd w B (ints b)) (hl : a.length ≤ 1000) (hl2 : b.length ≤ 1000) :
    Calls Tryd.prog 17 #[.slice A a.length c, .slice B b.length d, .int .i64 lag] w fun r w' => r = .returned (.tuple #[.int .i64 (corr a b lag), .int .i64 0]) ∧ Below w.heap.size w w' := by
  have h1 := correlationAt_c a b A B c d lag w hr hs hl hl2
  rw [h, if_pos rfl] at h1
  exact h1
theorem sideOf_no {l : List Int} (h : codeE l ≠ 0) (A : Option Addr) (c : Nat) (w : World) (hr : Rd w A (ints l)) (hl : l.length ≤ 1000) :
    Calls Tryd.prog 19 #[.slice A l.length c] w fun r w' => r = .returned (.tuple #[.int .i64 0, .int .i64 (codeE l)]) ∧ Below w.heap.size w w' := by
  have h1 := sidelobeOf_c l A c w hr hl
  rw [if_neg h] at h1
  exact h1
theorem sideOf_yes {l : List Int} (h : codeE l = 0) (A : Option Addr) (c : Nat) (w : World) (hr : Rd w A (ints l)) (hl : l.length ≤ 1000) :
    Calls Tryd.prog 19 #[.slice A l.length c] w fun r w' => r = .returned (.tuple #[.int .i64 (sideTo l (l.length - 1)), .int .i64 0]) ∧ Below w.heap.size w w' := by
  have h1 := sidelobeOf_c l A c w hr hl
  rw [h, if_pos rfl] at h1
  exact h1
theorem waveOf_no {l : List Int} (h : codeE l ≠ 0) (A : Option Addr) (c : Nat) (w : World) (hr : Rd w A (ints l)) (hl : l.length ≤ 1000) :
    Calls Tryd.prog 20 #[.slice A l.length c] w fun r w' => r = .returned (.tuple #[.slice none 0 0, .int .i64 (codeE l)]) ∧ Below w.heap.size w w' := by
  refine (waveOf_c l A c w hr hl).mono ?_
  rintro r w' ⟨h1, hb⟩
  rcases h1 with ⟨_, h1⟩ | ⟨h1, _⟩
  · exact ⟨h1, hb⟩
  · exact absurd h1 h
theorem waveOf_yes {l : List Int} (h : codeE l = 0) (A : Option Addr) (c : Nat) (w : World) (hr : Rd w A (ints l)) (hl : l.length ≤ 1000) :
    Calls Tryd.prog 20 #[.slice A l.length c] w fun r w' => (∃ A' c', r = .returned (.tuple #[.slice A' (reL l).length c', .int .i64 0]) ∧ RdT w' 76 A' (gs (reL l))) ∧ Below w.heap.size w w' := by
  refine (waveOf_c l A c w hr hl).mono ?_
  rintro r w' ⟨h1, hb⟩
  rcases h1 with ⟨h1, _⟩ | ⟨_, g, rfl, _, h1⟩
  · exact absurd h h1
  · exact ⟨⟨some ⟨g, 0, none⟩, l.length, by rw [reL_length], h1.rdT (List.prefix_refl _)⟩, hb⟩


theorem corrs_1 (a b : List Int) (A B : Option Addr) (c d : Nat) (lag : Int) (w : World) (hT : Tab w) (hr : Rd w A (ints a)) (hs : Rd w B (ints b)) (ha : a.length ≤ 34) (hb : b.length ≤ 34) (E : Int) (hEa : codeE a = E) (hE : E ≠ 0) :
    Calls Tryd.prog 3 #[.slice A a.length c, .slice B b.length d, .int .i64 lag] w fun r w' => r = .returned (.bool true) ∧ Below w.heap.size w w' := by
  have ea : decide ((a.length : Int) ≤ 34) = true := by simp; omega
  have eb : decide ((b.length : Int) ≤ 34) = true := by simp; omega
  have HC := hide (fun A' B' c' d' W h1 h2 => corrAt_no (corrE_of (E := E) (by rw [hEa]; simp [firstE, hE])) hE A' B' c' d' W h1 h2 (by omega) (by omega) (a := a) (b := b) (lag := lag))
  have HS := hide (fun A' c' W h => sideOf_no (l := a) (by rw [hEa]; exact hE) A' c' W h (by omega))
  have HV := hide (fun A' c' W h => waveOf_no (l := a) (by rw [hEa]; exact hE) A' c' W h (by omega))
  have HEa := hide (fun W (h : Rd W A (ints a)) => refCheckCode_c a A c W h (by omega))
  have HKa := hide (fun A' c' W (h : Rd W A' (ints a)) => checkCode_c a A' c' W h (by omega))
  rw [hEa] at HS HV HEa HKa
  have e1 : (E != 0) = true := by simpa using hE
  clear hE hEa
  go_enter Tryd.func3, Tryd.ntmps3
  go_wp2_with (first
    | (go_at_call 15; refine (awake_c _ hT).mono ?_; rintro e w1 ⟨rfl, hb1⟩)
    | (go_at_call 16; refine (few_c _ _ _ _).mono ?_; rintro e_ w_ ⟨rfl, rfl⟩)
    | (go_at_call 18; have _g := hW8; refine (copyInts_c a A c _ (hr.bel hW8) (by omega)).mono ?_; rintro e w9 ⟨⟨A9, c9, rfl, hr9⟩, hb9⟩; have hW9 := tr hW8 hb9 hW8.size)
    | (go_at_call 18; have _g := hW6; refine (copyInts_c a A c _ (hr.bel hW6) (by omega)).mono ?_; rintro e w7 ⟨⟨A7, c7, rfl, hr7⟩, hb7⟩; have hW7 := tr hW6 hb7 hW6.size)
    | (go_at_call 18; have _g := hW4; refine (copyInts_c a A c _ (hr.bel hW4) (by omega)).mono ?_; rintro e w5 ⟨⟨A5, c5, rfl, hr5⟩, hb5⟩; have hW5 := tr hW4 hb5 hW4.size)
    | (go_at_call 18; have _g := hW2; refine (copyInts_c b B d _ (hs.bel hW2) (by omega)).mono ?_; rintro e w3 ⟨⟨B3, d3, rfl, hs3⟩, hb3⟩; have hW3 := tr hW2 hb3 hW2.size)
    | (go_at_call 18; refine (copyInts_c a A c _ (hr.bel hb1) (by omega)).mono ?_; rintro e w2 ⟨⟨A2, c2, rfl, hr2⟩, hb2⟩; have hW2 := tr hb1 hb2 hb1.size)
    | (go_at_call 17; refine (HC.out A2 B3 c2 d3 _ (hr2.bel hb3).1 hs3.1).mono ?_; rintro e w4 ⟨rfl, hb4⟩; have hW4 := tr hW3 hb4 hW3.size)
    | (go_at_call 19; refine (HS.out A5 c5 _ hr5.1).mono ?_; rintro e w6 ⟨rfl, hb6⟩; have hW6 := tr hW5 hb6 hW5.size)
    | (go_at_call 21; have _g := hW13; refine (HEb.out _ (hs.bel hW13)).mono ?_; rintro e_ w_ ⟨rfl, rfl⟩)
    | (go_at_call 21; refine (HEa.out _ (hr.bel hW8)).mono ?_; rintro e_ w_ ⟨rfl, rfl⟩)
    | (go_at_call 22; refine (HKa.out A9 c9 _ hr9.1).mono ?_; rintro e w10 ⟨rfl, hb10⟩; have hW10 := tr hW9 hb10 hW9.size)
    | (go_at_call 20; refine (HV.out A7 c7 _ hr7.1).mono ?_; rintro e w8 ⟨rfl, hb8⟩; have hW8 := tr hW7 hb8 hW7.size)
    )
  go_ret
  exact ⟨rfl, hW10⟩


theorem corrs_2 (a b : List Int) (A B : Option Addr) (c d : Nat) (lag : Int) (w : World) (hT : Tab w) (hr : Rd w A (ints a)) (hs : Rd w B (ints b)) (ha : a.length ≤ 34) (hb : b.length ≤ 34) (E : Int) (hEa : codeE a = 0) (hEb : codeE b = E) (hE : E ≠ 0) :
    Calls Tryd.prog 3 #[.slice A a.length c, .slice B b.length d, .int .i64 lag] w fun r w' => r = .returned (.bool true) ∧ Below w.heap.size w w' := by
  have ea : decide ((a.length : Int) ≤ 34) = true := by simp; omega
  have eb : decide ((b.length : Int) ≤ 34) = true := by simp; omega
  have HC := hide (fun A' B' c' d' W h1 h2 => corrAt_no (corrE_of (E := E) (by rw [hEa, hEb]; simp [firstE, hE])) hE A' B' c' d' W h1 h2 (by omega) (by omega) (a := a) (b := b) (lag := lag))
  have HEa := hide (fun W (h : Rd W A (ints a)) => refCheckCode_c a A c W h (by omega))
  have HKa := hide (fun A' c' W (h : Rd W A' (ints a)) => checkCode_c a A' c' W h (by omega))
  have h1l : 1 ≤ a.length := (codeE_zero hEa).1
  have HSM := hide (small_of_code hEa)
  have HS := hide (fun A' c' W h => sideOf_yes (l := a) hEa A' c' W h (by omega))
  have HV := hide (fun A' c' W h => waveOf_yes (l := a) hEa A' c' W h (by omega))
  have HSR := hide (fun W (h : Rd W A (ints a)) => refSidelobe_c a A c W h HSM.out (by omega) h1l)
  have HWR := hide (fun W (h : Rd W A (ints a)) => refWaveOf_c a A c W h (by omega))
  have HEb := hide (fun W (h : Rd W B (ints b)) => refCheckCode_c b B d W h (by omega))
  have hLl : (reL a).length ≤ 1000 := by rw [reL_length]; omega
  rw [hEa] at HEa HKa
  rw [hEb] at HEb
  clear hEa hEb
  generalize sideTo a (a.length - 1) = sv at HS HSR
  generalize reL a = La at HV HWR hLl
  have e1 : (E == 0) = false := by simpa using hE
  have e2 : (E != 0) = true := by simpa using hE
  clear hE
  go_enter Tryd.func3, Tryd.ntmps3
  go_wp2_with (first
    | (go_at_call 15; refine (awake_c _ hT).mono ?_; rintro e w1 ⟨rfl, hb1⟩)
    | (go_at_call 16; refine (few_c _ _ _ _).mono ?_; rintro e_ w_ ⟨rfl, rfl⟩)
    | (go_at_call 18; have _g := hW8; refine (copyInts_c a A c _ (hr.bel hW8) (by omega)).mono ?_; rintro e w9 ⟨⟨A9, c9, rfl, hr9⟩, hb9⟩; have hW9 := tr hW8 hb9 hW8.size)
    | (go_at_call 18; have _g := hW6; refine (copyInts_c a A c _ (hr.bel hW6) (by omega)).mono ?_; rintro e w7 ⟨⟨A7, c7, rfl, hr7⟩, hb7⟩; have hW7 := tr hW6 hb7 hW6.size)
    | (go_at_call 18; have _g := hW4; refine (copyInts_c a A c _ (hr.bel hW4) (by omega)).mono ?_; rintro e w5 ⟨⟨A5, c5, rfl, hr5⟩, hb5⟩; have hW5 := tr hW4 hb5 hW4.size)
    | (go_at_call 18; have _g := hW2; refine (copyInts_c b B d _ (hs.bel hW2) (by omega)).mono ?_; rintro e w3 ⟨⟨B3, d3, rfl, hs3⟩, hb3⟩; have hW3 := tr hW2 hb3 hW2.size)
    | (go_at_call 18; refine (copyInts_c a A c _ (hr.bel hb1) (by omega)).mono ?_; rintro e w2 ⟨⟨A2, c2, rfl, hr2⟩, hb2⟩; have hW2 := tr hb1 hb2 hb1.size)
    | (go_at_call 17; refine (HC.out A2 B3 c2 d3 _ (hr2.bel hb3).1 hs3.1).mono ?_; rintro e w4 ⟨rfl, hb4⟩; have hW4 := tr hW3 hb4 hW3.size)
    | (go_at_call 19; refine (HS.out A5 c5 _ hr5.1).mono ?_; rintro e w6 ⟨rfl, hb6⟩; have hW6 := tr hW5 hb6 hW5.size)
    | (go_at_call 21; have _g := hW13; refine (HEb.out _ (hs.bel hW13)).mono ?_; rintro e_ w_ ⟨rfl, rfl⟩)
    | (go_at_call 21; refine (HEa.out _ (hr.bel hW8)).mono ?_; rintro e_ w_ ⟨rfl, rfl⟩)
    | (go_at_call 22; refine (HKa.out A9 c9 _ hr9.1).mono ?_; rintro e w10 ⟨rfl, hb10⟩; have hW10 := tr hW9 hb10 hW9.size)
    | (go_at_call 20; refine (HV.out A7 c7 _ hr7.1).mono ?_; rintro e w8 ⟨⟨A8, c8, rfl, hr8⟩, hb8⟩; have hW8 := tr hW7 hb8 hW7.size)
    | (go_at_call 23; refine (HSR.out _ (hr.bel hW10)).mono ?_; rintro e w11 ⟨rfl, n11, rfl⟩; have hW11 := below_drewN hW10 n11; have U11 := below_drewN (tr hb9 hb10 hb9.size) n11)
    | (go_at_call 25; refine (HWR.out _ (hr.bel hW11)).mono ?_; rintro e w12 ⟨⟨A12, c12, rfl, hr12⟩, hb12⟩; have hW12 := tr hW11 hb12 hW11.size; have U12 := tr U11 hb12 U11.size)
    | (go_at_call 24; refine (gausses_same La A8 A12 c8 c12 _ (hr8.bel U12).1 hr12.1 hLl).mono ?_; rintro e w13 ⟨rfl, hb13⟩; have hW13 := tr hW12 hb13 hW12.size)
    )
  go_ret
  exact ⟨rfl, hW13⟩

theorem corrs_3 (a b : List Int) (A B : Option Addr) (c d : Nat) (lag : Int) (w : World) (hT : Tab w) (hr : Rd w A (ints a)) (hs : Rd w B (ints b)) (ha : a.length ≤ 34) (hb : b.length ≤ 34) (hEa : codeE a = 0) (hEb : codeE b = 0) (hn : a.length ≠ b.length) :
    Calls Tryd.prog 3 #[.slice A a.length c, .slice B b.length d, .int .i64 lag] w fun r w' => r = .returned (.bool true) ∧ Below w.heap.size w w' := by
  have ea : decide ((a.length : Int) ≤ 34) = true := by simp; omega
  have eb : decide ((b.length : Int) ≤ 34) = true := by simp; omega
  have e1 : ((a.length : Int) != (b.length : Int)) = true := by simp; omega
  have HC := hide (fun A' B' c' d' W h1 h2 => corrAt_no (corrE_of (E := 10) (by rw [hEa, hEb, e1]; simp [firstE, errIf])) (by decide) A' B' c' d' W h1 h2 (by omega) (by omega) (a := a) (b := b) (lag := lag))
  have HEa := hide (fun W (h : Rd W A (ints a)) => refCheckCode_c a A c W h (by omega))
  have HKa := hide (fun A' c' W (h : Rd W A' (ints a)) => checkCode_c a A' c' W h (by omega))
  have h1l : 1 ≤ a.length := (codeE_zero hEa).1
  have HSM := hide (small_of_code hEa)
  have HS := hide (fun A' c' W h => sideOf_yes (l := a) hEa A' c' W h (by omega))
  have HV := hide (fun A' c' W h => waveOf_yes (l := a) hEa A' c' W h (by omega))
  have HSR := hide (fun W (h : Rd W A (ints a)) => refSidelobe_c a A c W h HSM.out (by omega) h1l)
  have HWR := hide (fun W (h : Rd W A (ints a)) => refWaveOf_c a A c W h (by omega))
  have HEb := hide (fun W (h : Rd W B (ints b)) => refCheckCode_c b B d W h (by omega))
  have hLl : (reL a).length ≤ 1000 := by rw [reL_length]; omega
  rw [hEa] at HEa HKa
  rw [hEb] at HEb
  clear hEa hEb
  generalize sideTo a (a.length - 1) = sv at HS HSR
  generalize reL a = La at HV HWR hLl
  clear hn
  go_enter Tryd.func3, Tryd.ntmps3
  go_wp2_with (first
    | (go_at_call 15; refine (awake_c _ hT).mono ?_; rintro e w1 ⟨rfl, hb1⟩)
    | (go_at_call 16; refine (few_c _ _ _ _).mono ?_; rintro e_ w_ ⟨rfl, rfl⟩)
    | (go_at_call 18; have _g := hW8; refine (copyInts_c a A c _ (hr.bel hW8) (by omega)).mono ?_; rintro e w9 ⟨⟨A9, c9, rfl, hr9⟩, hb9⟩; have hW9 := tr hW8 hb9 hW8.size)
    | (go_at_call 18; have _g := hW6; refine (copyInts_c a A c _ (hr.bel hW6) (by omega)).mono ?_; rintro e w7 ⟨⟨A7, c7, rfl, hr7⟩, hb7⟩; have hW7 := tr hW6 hb7 hW6.size)
    | (go_at_call 18; have _g := hW4; refine (copyInts_c a A c _ (hr.bel hW4) (by omega)).mono ?_; rintro e w5 ⟨⟨A5, c5, rfl, hr5⟩, hb5⟩; have hW5 := tr hW4 hb5 hW4.size)
    | (go_at_call 18; have _g := hW2; refine (copyInts_c b B d _ (hs.bel hW2) (by omega)).mono ?_; rintro e w3 ⟨⟨B3, d3, rfl, hs3⟩, hb3⟩; have hW3 := tr hW2 hb3 hW2.size)
    | (go_at_call 18; refine (copyInts_c a A c _ (hr.bel hb1) (by omega)).mono ?_; rintro e w2 ⟨⟨A2, c2, rfl, hr2⟩, hb2⟩; have hW2 := tr hb1 hb2 hb1.size)
    | (go_at_call 17; refine (HC.out A2 B3 c2 d3 _ (hr2.bel hb3).1 hs3.1).mono ?_; rintro e w4 ⟨rfl, hb4⟩; have hW4 := tr hW3 hb4 hW3.size)
    | (go_at_call 19; refine (HS.out A5 c5 _ hr5.1).mono ?_; rintro e w6 ⟨rfl, hb6⟩; have hW6 := tr hW5 hb6 hW5.size)
    | (go_at_call 21; have _g := hW13; refine (HEb.out _ (hs.bel hW13)).mono ?_; rintro e_ w_ ⟨rfl, rfl⟩)
    | (go_at_call 21; refine (HEa.out _ (hr.bel hW8)).mono ?_; rintro e_ w_ ⟨rfl, rfl⟩)
    | (go_at_call 22; refine (HKa.out A9 c9 _ hr9.1).mono ?_; rintro e w10 ⟨rfl, hb10⟩; have hW10 := tr hW9 hb10 hW9.size)
    | (go_at_call 20; refine (HV.out A7 c7 _ hr7.1).mono ?_; rintro e w8 ⟨⟨A8, c8, rfl, hr8⟩, hb8⟩; have hW8 := tr hW7 hb8 hW7.size)
    | (go_at_call 23; refine (HSR.out _ (hr.bel hW10)).mono ?_; rintro e w11 ⟨rfl, n11, rfl⟩; have hW11 := below_drewN hW10 n11; have U11 := below_drewN (tr hb9 hb10 hb9.size) n11)
    | (go_at_call 25; refine (HWR.out _ (hr.bel hW11)).mono ?_; rintro e w12 ⟨⟨A12, c12, rfl, hr12⟩, hb12⟩; have hW12 := tr hW11 hb12 hW11.size; have U12 := tr U11 hb12 U11.size)
    | (go_at_call 24; refine (gausses_same La A8 A12 c8 c12 _ (hr8.bel U12).1 hr12.1 hLl).mono ?_; rintro e w13 ⟨rfl, hb13⟩; have hW13 := tr hW12 hb13 hW12.size)
    )
  go_ret
  exact ⟨rfl, hW13⟩

theorem corrs_4 (a b : List Int) (A B : Option Addr) (c d : Nat) (lag : Int) (w : World) (hT : Tab w) (hr : Rd w A (ints a)) (hs : Rd w B (ints b)) (ha : a.length ≤ 34) (hb : b.length ≤ 34) (hEa : codeE a = 0) (hEb : codeE b = 0) (hn : a.length = b.length) (hq : outB lag (1 - (a.length : Int)) ((a.length : Int) - 1) = true) :
    Calls Tryd.prog 3 #[.slice A a.length c, .slice B b.length d, .int .i64 lag] w fun r w' => r = .returned (.bool true) ∧ Below w.heap.size w w' := by
  have ea : decide ((a.length : Int) ≤ 34) = true := by simp; omega
  have eb : decide ((b.length : Int) ≤ 34) = true := by simp; omega
  have e1 : ((a.length : Int) != (b.length : Int)) = false := by simp; omega
  have HC := hide (fun A' B' c' d' W h1 h2 => corrAt_no (corrE_of (E := 2) (by rw [hEa, hEb, e1, hq]; simp [firstE, errIf])) (by decide) A' B' c' d' W h1 h2 (by omega) (by omega) (a := a) (b := b) (lag := lag))
  have HEa := hide (fun W (h : Rd W A (ints a)) => refCheckCode_c a A c W h (by omega))
  have HKa := hide (fun A' c' W (h : Rd W A' (ints a)) => checkCode_c a A' c' W h (by omega))
  have h1l : 1 ≤ a.length := (codeE_zero hEa).1
  have HSM := hide (small_of_code hEa)
  have HS := hide (fun A' c' W h => sideOf_yes (l := a) hEa A' c' W h (by omega))
  have HV := hide (fun A' c' W h => waveOf_yes (l := a) hEa A' c' W h (by omega))
  have HSR := hide (fun W (h : Rd W A (ints a)) => refSidelobe_c a A c W h HSM.out (by omega) h1l)
  have HWR := hide (fun W (h : Rd W A (ints a)) => refWaveOf_c a A c W h (by omega))
  have HEb := hide (fun W (h : Rd W B (ints b)) => refCheckCode_c b B d W h (by omega))
  have hLl : (reL a).length ≤ 1000 := by rw [reL_length]; omega
  rw [hEa] at HEa HKa
  rw [hEb] at HEb
  clear hEa hEb
  generalize sideTo a (a.length - 1) = sv at HS HSR
  generalize reL a = La at HV HWR hLl
  clear hn
  go_enter Tryd.func3, Tryd.ntmps3
  go_wp2_with (first
    | (go_at_call 15; refine (awake_c _ hT).mono ?_; rintro e w1 ⟨rfl, hb1⟩)
    | (go_at_call 16; refine (few_c _ _ _ _).mono ?_; rintro e_ w_ ⟨rfl, rfl⟩)
    | (go_at_call 18; have _g := hW8; refine (copyInts_c a A c _ (hr.bel hW8) (by omega)).mono ?_; rintro e w9 ⟨⟨A9, c9, rfl, hr9⟩, hb9⟩; have hW9 := tr hW8 hb9 hW8.size)
    | (go_at_call 18; have _g := hW6; refine (copyInts_c a A c _ (hr.bel hW6) (by omega)).mono ?_; rintro e w7 ⟨⟨A7, c7, rfl, hr7⟩, hb7⟩; have hW7 := tr hW6 hb7 hW6.size)
    | (go_at_call 18; have _g := hW4; refine (copyInts_c a A c _ (hr.bel hW4) (by omega)).mono ?_; rintro e w5 ⟨⟨A5, c5, rfl, hr5⟩, hb5⟩; have hW5 := tr hW4 hb5 hW4.size)
    | (go_at_call 18; have _g := hW2; refine (copyInts_c b B d _ (hs.bel hW2) (by omega)).mono ?_; rintro e w3 ⟨⟨B3, d3, rfl, hs3⟩, hb3⟩; have hW3 := tr hW2 hb3 hW2.size)
    | (go_at_call 18; refine (copyInts_c a A c _ (hr.bel hb1) (by omega)).mono ?_; rintro e w2 ⟨⟨A2, c2, rfl, hr2⟩, hb2⟩; have hW2 := tr hb1 hb2 hb1.size)
    | (go_at_call 17; refine (HC.out A2 B3 c2 d3 _ (hr2.bel hb3).1 hs3.1).mono ?_; rintro e w4 ⟨rfl, hb4⟩; have hW4 := tr hW3 hb4 hW3.size)
    | (go_at_call 19; refine (HS.out A5 c5 _ hr5.1).mono ?_; rintro e w6 ⟨rfl, hb6⟩; have hW6 := tr hW5 hb6 hW5.size)
    | (go_at_call 21; have _g := hW13; refine (HEb.out _ (hs.bel hW13)).mono ?_; rintro e_ w_ ⟨rfl, rfl⟩)
    | (go_at_call 21; refine (HEa.out _ (hr.bel hW8)).mono ?_; rintro e_ w_ ⟨rfl, rfl⟩)
    | (go_at_call 22; refine (HKa.out A9 c9 _ hr9.1).mono ?_; rintro e w10 ⟨rfl, hb10⟩; have hW10 := tr hW9 hb10 hW9.size)
    | (go_at_call 20; refine (HV.out A7 c7 _ hr7.1).mono ?_; rintro e w8 ⟨⟨A8, c8, rfl, hr8⟩, hb8⟩; have hW8 := tr hW7 hb8 hW7.size)
    | (go_at_call 23; refine (HSR.out _ (hr.bel hW10)).mono ?_; rintro e w11 ⟨rfl, n11, rfl⟩; have hW11 := below_drewN hW10 n11; have U11 := below_drewN (tr hb9 hb10 hb9.size) n11)
    | (go_at_call 25; refine (HWR.out _ (hr.bel hW11)).mono ?_; rintro e w12 ⟨⟨A12, c12, rfl, hr12⟩, hb12⟩; have hW12 := tr hW11 hb12 hW11.size; have U12 := tr U11 hb12 U11.size)
    | (go_at_call 24; refine (gausses_same La A8 A12 c8 c12 _ (hr8.bel U12).1 hr12.1 hLl).mono ?_; rintro e w13 ⟨rfl, hb13⟩; have hW13 := tr hW12 hb13 hW12.size)
    | (go_at_call 26; refine (within_c _ _ _ _).mono ?_; rintro e_ w_ ⟨rfl, rfl⟩)
    )
  go_ret
  exact ⟨rfl, hW13⟩

theorem corrs_5 (a b : List Int) (A B : Option Addr) (c d : Nat) (lag : Int) (w : World) (hT : Tab w) (hr : Rd w A (ints a)) (hs : Rd w B (ints b)) (ha : a.length ≤ 34) (hb : b.length ≤ 34) (hEa : codeE a = 0) (hEb : codeE b = 0) (hn : a.length = b.length) (hq : outB lag (1 - (a.length : Int)) ((a.length : Int) - 1) = false) :
    Calls Tryd.prog 3 #[.slice A a.length c, .slice B b.length d, .int .i64 lag] w fun r w' => r = .returned (.bool true) ∧ Below w.heap.size w w' := by
  have ea : decide ((a.length : Int) ≤ 34) = true := by simp; omega
  have eb : decide ((b.length : Int) ≤ 34) = true := by simp; omega
  have e1 : ((a.length : Int) != (b.length : Int)) = false := by simp; omega
  have HC := hide (fun A' B' c' d' W h1 h2 => corrAt_yes (corrE_of (E := 0) (by rw [hEa, hEb, e1, hq]; simp [firstE, errIf])) A' B' c' d' W h1 h2 (by omega) (by omega) (a := a) (b := b) (lag := lag))
  obtain ⟨q1, q2⟩ := outB_false.1 hq
  have HR := hide (fun W (h1 : Rd W A (ints a)) (h2 : Rd W B (ints b)) => refCorr_c a b A B c d lag W h1 h2 (small_of_code hEa) (small_of_code hEb) (by omega) hn (by omega) (by omega))
  have HEa := hide (fun W (h : Rd W A (ints a)) => refCheckCode_c a A c W h (by omega))
  have HKa := hide (fun A' c' W (h : Rd W A' (ints a)) => checkCode_c a A' c' W h (by omega))
  have h1l : 1 ≤ a.length := (codeE_zero hEa).1
  have HSM := hide (small_of_code hEa)
  have HS := hide (fun A' c' W h => sideOf_yes (l := a) hEa A' c' W h (by omega))
  have HV := hide (fun A' c' W h => waveOf_yes (l := a) hEa A' c' W h (by omega))
  have HSR := hide (fun W (h : Rd W A (ints a)) => refSidelobe_c a A c W h HSM.out (by omega) h1l)
  have HWR := hide (fun W (h : Rd W A (ints a)) => refWaveOf_c a A c W h (by omega))
  have HEb := hide (fun W (h : Rd W B (ints b)) => refCheckCode_c b B d W h (by omega))
  have hLl : (reL a).length ≤ 1000 := by rw [reL_length]; omega
  rw [hEa] at HEa HKa
  rw [hEb] at HEb
  clear hEa hEb
  generalize sideTo a (a.length - 1) = sv at HS HSR
  generalize reL a = La at HV HWR hLl
  clear hn q1 q2
  generalize corr a b lag = cv at HC HR
  go_enter Tryd.func3, Tryd.ntmps3
  go_wp2_with (first
    | (go_at_call 15; refine (awake_c _ hT).mono ?_; rintro e w1 ⟨rfl, hb1⟩)
    | (go_at_call 16; refine (few_c _ _ _ _).mono ?_; rintro e_ w_ ⟨rfl, rfl⟩)
    | (go_at_call 18; have _g := hW8; refine (copyInts_c a A c _ (hr.bel hW8) (by omega)).mono ?_; rintro e w9 ⟨⟨A9, c9, rfl, hr9⟩, hb9⟩; have hW9 := tr hW8 hb9 hW8.size)
    | (go_at_call 18; have _g := hW6; refine (copyInts_c a A c _ (hr.bel hW6) (by omega)).mono ?_; rintro e w7 ⟨⟨A7, c7, rfl, hr7⟩, hb7⟩; have hW7 := tr hW6 hb7 hW6.size)
    | (go_at_call 18; have _g := hW4; refine (copyInts_c a A c _ (hr.bel hW4) (by omega)).mono ?_; rintro e w5 ⟨⟨A5, c5, rfl, hr5⟩, hb5⟩; have hW5 := tr hW4 hb5 hW4.size)
    | (go_at_call 18; have _g := hW2; refine (copyInts_c b B d _ (hs.bel hW2) (by omega)).mono ?_; rintro e w3 ⟨⟨B3, d3, rfl, hs3⟩, hb3⟩; have hW3 := tr hW2 hb3 hW2.size)
    | (go_at_call 18; refine (copyInts_c a A c _ (hr.bel hb1) (by omega)).mono ?_; rintro e w2 ⟨⟨A2, c2, rfl, hr2⟩, hb2⟩; have hW2 := tr hb1 hb2 hb1.size)
    | (go_at_call 17; refine (HC.out A2 B3 c2 d3 _ (hr2.bel hb3).1 hs3.1).mono ?_; rintro e w4 ⟨rfl, hb4⟩; have hW4 := tr hW3 hb4 hW3.size)
    | (go_at_call 19; refine (HS.out A5 c5 _ hr5.1).mono ?_; rintro e w6 ⟨rfl, hb6⟩; have hW6 := tr hW5 hb6 hW5.size)
    | (go_at_call 21; have _g := hW13; refine (HEb.out _ (hs.bel hW13)).mono ?_; rintro e_ w_ ⟨rfl, rfl⟩)
    | (go_at_call 21; refine (HEa.out _ (hr.bel hW8)).mono ?_; rintro e_ w_ ⟨rfl, rfl⟩)
    | (go_at_call 22; refine (HKa.out A9 c9 _ hr9.1).mono ?_; rintro e w10 ⟨rfl, hb10⟩; have hW10 := tr hW9 hb10 hW9.size)
    | (go_at_call 20; refine (HV.out A7 c7 _ hr7.1).mono ?_; rintro e w8 ⟨⟨A8, c8, rfl, hr8⟩, hb8⟩; have hW8 := tr hW7 hb8 hW7.size)
    | (go_at_call 23; refine (HSR.out _ (hr.bel hW10)).mono ?_; rintro e w11 ⟨rfl, n11, rfl⟩; have hW11 := below_drewN hW10 n11; have U11 := below_drewN (tr hb9 hb10 hb9.size) n11)
    | (go_at_call 25; refine (HWR.out _ (hr.bel hW11)).mono ?_; rintro e w12 ⟨⟨A12, c12, rfl, hr12⟩, hb12⟩; have hW12 := tr hW11 hb12 hW11.size; have U12 := tr U11 hb12 U11.size)
    | (go_at_call 24; refine (gausses_same La A8 A12 c8 c12 _ (hr8.bel U12).1 hr12.1 hLl).mono ?_; rintro e w13 ⟨rfl, hb13⟩; have hW13 := tr hW12 hb13 hW12.size)
    | (go_at_call 26; refine (within_c _ _ _ _).mono ?_; rintro e_ w_ ⟨rfl, rfl⟩)
    | (go_at_call 27; refine (HR.out _ (hr.bel hW13) (hs.bel hW13)).mono ?_; rintro e w14 ⟨rfl, n14, rfl⟩)
    )
  go_ret
  exact ⟨rfl, below_drewN hW13 _⟩

theorem corrs_6 (n m c d : Nat) (A B : Option Addr) (lag : Int) (w : World) (hT : Tab w) (h : ¬ (n ≤ 34 ∧ m ≤ 34)) :
    Calls Tryd.prog 3 #[.slice A n c, .slice B m d, .int .i64 lag] w fun r w' => r = .returned (.bool true) ∧ Below w.heap.size w w' := by
  by_cases ha : n ≤ 34
  · have ea : decide ((n : Int) ≤ 34) = true := by simp; omega
    have eb : decide ((m : Int) ≤ 34) = false := by simp; omega
    clear h ha
    go_enter Tryd.func3, Tryd.ntmps3
    go_wp2_with (first
      | (go_at_call 15; refine (awake_c _ hT).mono ?_; rintro e w1 ⟨rfl, hb1⟩)
      | (go_at_call 16; refine (few_c _ _ _ _).mono ?_; rintro e_ w_ ⟨rfl, rfl⟩))
    go_ret
    exact ⟨rfl, hb1⟩
  · have ea : decide ((n : Int) ≤ 34) = false := by simp; omega
    clear h ha
    go_enter Tryd.func3, Tryd.ntmps3
    go_wp2_with (first
      | (go_at_call 15; refine (awake_c _ hT).mono ?_; rintro e w1 ⟨rfl, hb1⟩)
      | (go_at_call 16; refine (few_c _ _ _ _).mono ?_; rintro e_ w_ ⟨rfl, rfl⟩))
    go_ret
    exact ⟨rfl, hb1⟩

theorem corrs_c (a b : List Int) (A B : Option Addr) (c d : Nat) (lag : Int) (w : World) (hT : Tab w) (hr : Rd w A (ints a)) (hs : Rd w B (ints b)) :
    Calls Tryd.prog 3 #[.slice A a.length c, .slice B b.length d, .int .i64 lag] w fun r w' => r = .returned (.bool true) ∧ Below w.heap.size w w' := by
  by_cases h : a.length ≤ 34 ∧ b.length ≤ 34
  · obtain ⟨ha, hb⟩ := h
    by_cases hEa : codeE a = 0
    · by_cases hEb : codeE b = 0
      · by_cases hn : a.length = b.length
        · cases hq : outB lag (1 - (a.length : Int)) ((a.length : Int) - 1)
          · exact corrs_5 a b A B c d lag w hT hr hs ha hb hEa hEb hn hq
          · exact corrs_4 a b A B c d lag w hT hr hs ha hb hEa hEb hn hq
        · exact corrs_3 a b A B c d lag w hT hr hs ha hb hEa hEb hn
      · exact corrs_2 a b A B c d lag w hT hr hs ha hb _ hEa rfl hEb
    · exact corrs_1 a b A B c d lag w hT hr hs ha hb _ rfl hEa
  · exact corrs_6 a.length b.length c d A B lag w hT h
end Go.Proofs.YthkmeaibppkhmaaDoor
