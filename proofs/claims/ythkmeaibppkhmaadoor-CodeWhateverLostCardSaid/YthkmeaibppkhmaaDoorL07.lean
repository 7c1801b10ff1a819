/- The law CodeFrames: the call returns true, and nothing that was there turns. Condition: the laid table. -/
import Derived.Test.YthkmeaibppkhmaaDoorR6
import Derived.Test.YthkmeaibppkhmaaDoorL05
namespace Go.Proofs.YthkmeaibppkhmaaDoor
open Go.RowKit
set_option maxRecDepth 100000


theorem frames_1 (gain limit : Int) (A G : Option Addr) (cA c : Nat) (samples : List (Int × Int)) (gaps : List Int) (w : World) (hT : Tab w) (hs : Rd w A (gs samples)) (hr : Rd w G (ints gaps)) (hf : fewB samples.length gaps.length = false) :
    Calls Tryd.prog 9 #[.agg #[.int .i64 gain, .int .i64 limit, .slice A samples.length cA, .slice G gaps.length c]] w fun r w' => r = .returned (.bool true) ∧ Below w.heap.size w w' := by
  have HF := hide (fun W => fewFrame_c gain limit A G samples.length gaps.length cA c W)
  rw [hf] at HF
  have _u := And.intro hs hr
  clear hf hs hr _u
  go_enter Tryd.func9, Tryd.ntmps9
  go_wp2_with (first
    | (go_at_call 15; refine (awake_c _ (hT.bel (alloc_bel _ _))).mono ?_; rintro e w1 ⟨rfl, hb1⟩; have hW1 : Below w.heap.size w w1 := tr (alloc_bel _ _) hb1 (by simp); have hX1 := (Blk.new w 81 [.int .i64 gain, .int .i64 limit, .slice A samples.length cA, .slice G gaps.length c]).bel hb1; have c0 := hX1.cell 0; have c1 := hX1.cell 1; have c2 := hX1.cell 2; have c3 := hX1.cell 3; simp only [List.getElem?_cons_zero, List.getElem?_cons_succ] at c0 c1 c2 c3)
    | (go_at_call 54; refine (HF.out _).mono ?_; rintro e w2 ⟨rfl, hb2⟩; have hW2 := tr hW1 hb2 hW1.size; have hX2 := hX1.bel hb2; have c0 := hX2.cell 0; have c1 := hX2.cell 1; have c2 := hX2.cell 2; have c3 := hX2.cell 3; simp only [List.getElem?_cons_zero, List.getElem?_cons_succ] at c0 c1 c2 c3)
    )
  go_ret
  exact ⟨rfl, hW2⟩

theorem frames_2 (gain limit : Int) (A G : Option Addr) (cA c : Nat) (samples : List (Int × Int)) (gaps : List Int) (w : World) (hT : Tab w) (hs : Rd w A (gs samples)) (hr : Rd w G (ints gaps)) (hf : fewB samples.length gaps.length = true) (he : (frameE gain limit samples gaps).2 ≠ 0) :
    Calls Tryd.prog 9 #[.agg #[.int .i64 gain, .int .i64 limit, .slice A samples.length cA, .slice G gaps.length c]] w fun r w' => r = .returned (.bool true) ∧ Below w.heap.size w w' := by
  have hq : samples.length ≤ 70 ∧ gaps.length ≤ 70 := by simpa [fewB] using hf
  have HF := hide (fun W => fewFrame_c gain limit A G samples.length gaps.length cA c W)
  rw [hf] at HF
  have HCP := hide (fun W h1 h2 => copyFrame_c gain limit A G cA c samples gaps W h1 h2 (by omega) (by omega))
  have HCK := hide (fun (A' : Option Addr) (a' : Nat) (G' : Option Addr) (d' : Nat) W h1 h2 => checkFrame_c gain limit A' G' a' d' samples gaps W h1 h2 (by omega) (by omega))
  have HRC := hide (fun W h1 h2 => refCheckFrame_c gain limit A G cA c samples gaps W h1 h2 (by omega) (by omega))
  have HU := hide (fun (A' : Option Addr) (a' : Nat) (G' : Option Addr) (d' : Nat) W h1 h2 => usableIn_c gain limit A' G' a' d' samples gaps W h1 h2 (by omega) (by omega))
  have HU2 : Hid (∀ (A' : Option Addr) (a' : Nat) (G' : Option Addr) (d' : Nat) W, Rd W A' (gs samples) → Rd W G' (ints gaps) → Calls Tryd.prog 57 #[.agg #[.int .i64 gain, .int .i64 limit, .slice A' samples.length a', .slice G' gaps.length d']] W fun r w' =>
      r = .returned (.tuple #[.slice none 0 0, .int .i64 (frameE gain limit samples gaps).2]) ∧ Below W.heap.size W w') := fun A' a' G' d' W h1 h2 => (HU.out A' a' G' d' W h1 h2).mono fun _ _ ⟨h, hb⟩ => ⟨by rcases h with ⟨_, h⟩ | ⟨h, _⟩; exact h; exact absurd h he, hb⟩
  have e1 : ((frameE gain limit samples gaps).2 != 0) = true := by simpa using he
  clear hf he HU hq
  generalize (frameE gain limit samples gaps).2 = E at HU2 e1 HCK HRC
  generalize (frameE gain limit samples gaps).1 = I at HCK HRC
  go_enter Tryd.func9, Tryd.ntmps9
  go_wp2_with (first
    | (go_at_call 15; refine (awake_c _ (hT.bel (alloc_bel _ _))).mono ?_; rintro e w1 ⟨rfl, hb1⟩; have hW1 : Below w.heap.size w w1 := tr (alloc_bel _ _) hb1 (by simp); have hX1 := (Blk.new w 81 [.int .i64 gain, .int .i64 limit, .slice A samples.length cA, .slice G gaps.length c]).bel hb1; have c0 := hX1.cell 0; have c1 := hX1.cell 1; have c2 := hX1.cell 2; have c3 := hX1.cell 3; simp only [List.getElem?_cons_zero, List.getElem?_cons_succ] at c0 c1 c2 c3)
    | (go_at_call 54; refine (HF.out _).mono ?_; rintro e w2 ⟨rfl, hb2⟩; have hW2 := tr hW1 hb2 hW1.size; have hX2 := hX1.bel hb2; have c0 := hX2.cell 0; have c1 := hX2.cell 1; have c2 := hX2.cell 2; have c3 := hX2.cell 3; simp only [List.getElem?_cons_zero, List.getElem?_cons_succ] at c0 c1 c2 c3)
    | (go_at_call 56; have _g := hW4; refine (HCP.out _ (hs.bel hW4) (hr.bel hW4)).mono ?_; rintro e w5 ⟨⟨A5, a5, G5, d5, rfl, hs5, hr5⟩, hb5⟩; have hW5 := tr hW4 hb5 hW4.size; have hX5 := hX4.bel hb5; have c0 := hX5.cell 0; have c1 := hX5.cell 1; have c2 := hX5.cell 2; have c3 := hX5.cell 3; simp only [List.getElem?_cons_zero, List.getElem?_cons_succ] at c0 c1 c2 c3)
    | (go_at_call 56; refine (HCP.out _ (hs.bel hW2) (hr.bel hW2)).mono ?_; rintro e w3 ⟨⟨A3, a3, G3, d3, rfl, hs3, hr3⟩, hb3⟩; have hW3 := tr hW2 hb3 hW2.size; have hX3 := hX2.bel hb3; have c0 := hX3.cell 0; have c1 := hX3.cell 1; have c2 := hX3.cell 2; have c3 := hX3.cell 3; simp only [List.getElem?_cons_zero, List.getElem?_cons_succ] at c0 c1 c2 c3)
    | (go_at_call 55; refine (HCK.out A3 a3 G3 d3 _ hs3.1 hr3.1).mono ?_; rintro e w4 ⟨rfl, hb4⟩; have hW4 := tr hW3 hb4 hW3.size; have hX4 := hX3.bel hb4; have c0 := hX4.cell 0; have c1 := hX4.cell 1; have c2 := hX4.cell 2; have c3 := hX4.cell 3; simp only [List.getElem?_cons_zero, List.getElem?_cons_succ] at c0 c1 c2 c3)
    | (go_at_call 58; refine (HRC.out _ (hs.bel hW6) (hr.bel hW6)).mono ?_; rintro e w7 ⟨rfl, hb7⟩; have hW7 := tr hW6 hb7 hW6.size; have hX7 := hX6.bel hb7; have c0 := hX7.cell 0; have c1 := hX7.cell 1; have c2 := hX7.cell 2; have c3 := hX7.cell 3; simp only [List.getElem?_cons_zero, List.getElem?_cons_succ] at c0 c1 c2 c3)
    | (go_at_call 57; refine (HU2.out A5 a5 G5 d5 _ hs5.1 hr5.1).mono ?_; rintro e w6 ⟨rfl, hb6⟩; have hW6 := tr hW5 hb6 hW5.size; have hX6 := hX5.bel hb6; have c0 := hX6.cell 0; have c1 := hX6.cell 1; have c2 := hX6.cell 2; have c3 := hX6.cell 3; simp only [List.getElem?_cons_zero, List.getElem?_cons_succ] at c0 c1 c2 c3)
    )
  go_ret
  exact ⟨rfl, hW7⟩

theorem frame_small {gain limit : Int} {samples : List (Int × Int)} {gaps : List Int} (he : (frameE gain limit samples gaps).2 = 0) : ∀ g ∈ samples, -4000000 ≤ g.1 ∧ g.1 ≤ 4000000 ∧ -4000000 ≤ g.2 ∧ g.2 ≤ 4000000 := by
  intro g hg
  obtain ⟨h0, h1, _⟩ := frameE_zero he
  obtain ⟨_, _, l1, l2, _, _⟩ := headE_zero h0
  have h2 := h1 g hg
  omega

theorem frames_3 (gain limit : Int) (A G : Option Addr) (cA c : Nat) (samples : List (Int × Int)) (gaps : List Int) (w : World) (hT : Tab w) (hs : Rd w A (gs samples)) (hr : Rd w G (ints gaps)) (hf : fewB samples.length gaps.length = true) (he : (frameE gain limit samples gaps).2 = 0) :
    Calls Tryd.prog 9 #[.agg #[.int .i64 gain, .int .i64 limit, .slice A samples.length cA, .slice G gaps.length c]] w fun r w' => r = .returned (.bool true) ∧ Below w.heap.size w w' := by
  have hq : samples.length ≤ 70 ∧ gaps.length ≤ 70 := by simpa [fewB] using hf
  have HF := hide (fun W => fewFrame_c gain limit A G samples.length gaps.length cA c W)
  rw [hf] at HF
  have HCP := hide (fun W h1 h2 => copyFrame_c gain limit A G cA c samples gaps W h1 h2 (by omega) (by omega))
  have HCK := hide (fun (A' : Option Addr) (a' : Nat) (G' : Option Addr) (d' : Nat) W h1 h2 => checkFrame_c gain limit A' G' a' d' samples gaps W h1 h2 (by omega) (by omega))
  have HRC := hide (fun W h1 h2 => refCheckFrame_c gain limit A G cA c samples gaps W h1 h2 (by omega) (by omega))
  have HU := hide (fun (A' : Option Addr) (a' : Nat) (G' : Option Addr) (d' : Nat) W h1 h2 => usableIn_c gain limit A' G' a' d' samples gaps W h1 h2 (by omega) (by omega))
  have HU2 : Hid (∀ (A' : Option Addr) (a' : Nat) (G' : Option Addr) (d' : Nat) W, Rd W A' (gs samples) → Rd W G' (ints gaps) → Calls Tryd.prog 57 #[.agg #[.int .i64 gain, .int .i64 limit, .slice A' samples.length a', .slice G' gaps.length d']] W fun r w' =>
      (∃ A'' c'', r = .returned (.tuple #[.slice A'' (idxL (usableL limit samples gaps) true samples.length).length c'', .int .i64 0]) ∧ RdT w' 3 A'' (ints (idxL (usableL limit samples gaps) true samples.length))) ∧ Below W.heap.size W w') := fun A' a' G' d' W h1 h2 => (HU.out A' a' G' d' W h1 h2).mono fun _ _ ⟨h, hb⟩ => ⟨by rcases h with ⟨h, _⟩ | ⟨_, h⟩; exact absurd he h; exact h, hb⟩
  have HRU := hide (fun W h1 h2 => refUsableIn_c gain limit A G cA c samples gaps true W h1 h2 (by omega) (by omega) (frame_small he))
  have hLl : (idxL (usableL limit samples gaps) true samples.length).length ≤ 1000 := Nat.le_trans (idxL_le _ _ _) (by omega)
  rw [he] at HCK HRC
  clear hf he HU hq
  generalize (frameE gain limit samples gaps).1 = I at HCK HRC
  generalize idxL (usableL limit samples gaps) true samples.length = L at HU2 HRU hLl
  go_enter Tryd.func9, Tryd.ntmps9
  go_wp2_with (first
    | (go_at_call 15; refine (awake_c _ (hT.bel (alloc_bel _ _))).mono ?_; rintro e w1 ⟨rfl, hb1⟩; have hW1 : Below w.heap.size w w1 := tr (alloc_bel _ _) hb1 (by simp); have hX1 := (Blk.new w 81 [.int .i64 gain, .int .i64 limit, .slice A samples.length cA, .slice G gaps.length c]).bel hb1; have c0 := hX1.cell 0; have c1 := hX1.cell 1; have c2 := hX1.cell 2; have c3 := hX1.cell 3; simp only [List.getElem?_cons_zero, List.getElem?_cons_succ] at c0 c1 c2 c3)
    | (go_at_call 54; refine (HF.out _).mono ?_; rintro e w2 ⟨rfl, hb2⟩; have hW2 := tr hW1 hb2 hW1.size; have hX2 := hX1.bel hb2; have c0 := hX2.cell 0; have c1 := hX2.cell 1; have c2 := hX2.cell 2; have c3 := hX2.cell 3; simp only [List.getElem?_cons_zero, List.getElem?_cons_succ] at c0 c1 c2 c3)
    | (go_at_call 56; have _g := hW4; refine (HCP.out _ (hs.bel hW4) (hr.bel hW4)).mono ?_; rintro e w5 ⟨⟨A5, a5, G5, d5, rfl, hs5, hr5⟩, hb5⟩; have hW5 := tr hW4 hb5 hW4.size; have hX5 := hX4.bel hb5; have c0 := hX5.cell 0; have c1 := hX5.cell 1; have c2 := hX5.cell 2; have c3 := hX5.cell 3; simp only [List.getElem?_cons_zero, List.getElem?_cons_succ] at c0 c1 c2 c3)
    | (go_at_call 56; refine (HCP.out _ (hs.bel hW2) (hr.bel hW2)).mono ?_; rintro e w3 ⟨⟨A3, a3, G3, d3, rfl, hs3, hr3⟩, hb3⟩; have hW3 := tr hW2 hb3 hW2.size; have hX3 := hX2.bel hb3; have c0 := hX3.cell 0; have c1 := hX3.cell 1; have c2 := hX3.cell 2; have c3 := hX3.cell 3; simp only [List.getElem?_cons_zero, List.getElem?_cons_succ] at c0 c1 c2 c3)
    | (go_at_call 55; refine (HCK.out A3 a3 G3 d3 _ hs3.1 hr3.1).mono ?_; rintro e w4 ⟨rfl, hb4⟩; have hW4 := tr hW3 hb4 hW3.size; have hX4 := hX3.bel hb4; have c0 := hX4.cell 0; have c1 := hX4.cell 1; have c2 := hX4.cell 2; have c3 := hX4.cell 3; simp only [List.getElem?_cons_zero, List.getElem?_cons_succ] at c0 c1 c2 c3)
    | (go_at_call 58; refine (HRC.out _ (hs.bel hW6) (hr.bel hW6)).mono ?_; rintro e w7 ⟨rfl, hb7⟩; have hW7 := tr hW6 hb7 hW6.size; have hX7 := hX6.bel hb7; have c0 := hX7.cell 0; have c1 := hX7.cell 1; have c2 := hX7.cell 2; have c3 := hX7.cell 3; simp only [List.getElem?_cons_zero, List.getElem?_cons_succ] at c0 c1 c2 c3)
    | (go_at_call 57; refine (HU2.out A5 a5 G5 d5 _ hs5.1 hr5.1).mono ?_; rintro e w6 ⟨⟨A6, a6, rfl, hr6⟩, hb6⟩; have hW6 := tr hW5 hb6 hW5.size; have hX6 := hX5.bel hb6; have c0 := hX6.cell 0; have c1 := hX6.cell 1; have c2 := hX6.cell 2; have c3 := hX6.cell 3; simp only [List.getElem?_cons_zero, List.getElem?_cons_succ] at c0 c1 c2 c3)
    | (go_at_call 59; refine (HRU.out _ (hs.bel hW7) (hr.bel hW7)).mono ?_; rintro e w8 ⟨⟨A8, a8, rfl, hr8⟩, hb8⟩; have hW8 := tr hW7 hb8 hW7.size)
    | (go_at_call 31; refine (ints_same L A6 A8 a6 a8 _ ((hr6.bel hb7).bel hb8).1 hr8.1 hLl).mono ?_; rintro e w9 ⟨rfl, hb9⟩; have hW9 := tr hW8 hb9 hW8.size)
    )
  go_ret
  exact ⟨rfl, hW9⟩

theorem frames_c (gain limit : Int) (A G : Option Addr) (cA c : Nat) (samples : List (Int × Int)) (gaps : List Int) (w : World) (hT : Tab w) (hs : Rd w A (gs samples)) (hr : Rd w G (ints gaps)) :
    Calls Tryd.prog 9 #[.agg #[.int .i64 gain, .int .i64 limit, .slice A samples.length cA, .slice G gaps.length c]] w fun r w' => r = .returned (.bool true) ∧ Below w.heap.size w w' := by
  cases hf : fewB samples.length gaps.length
  · exact frames_1 gain limit A G cA c samples gaps w hT hs hr hf
  · by_cases he : (frameE gain limit samples gaps).2 = 0
    · exact frames_3 gain limit A G cA c samples gaps w hT hs hr hf he
    · exact frames_2 gain limit A G cA c samples gaps w hT hs hr hf he
end Go.Proofs.YthkmeaibppkhmaaDoor
