/- The law CodeCleaned: the call returns true, and nothing that was there turns. Condition: the laid table. -/
import Derived.Test.YtnigmdkhecblnaaDoorQ8
set_option linter.unusedSimpArgs false
set_option linter.unusedVariables false
namespace Go.Proofs.YtnigmdkhecblnaaDoor
open Go.RowKit
set_option maxRecDepth 100000


theorem clean_1 (gain limit : Int) (A G B : Option Addr) (cA c cB : Nat) (samples : List (Int × Int)) (gaps lines : List Int) (w : World) (hT : Tab w) (hs : Rd w A (gs samples)) (hr : Rd w G (ints gaps)) (hx : Rd w B (ints lines)) (hf : fewB samples.length gaps.length = false) :
    Calls Tryd.prog 3 #[.agg #[.int .i64 gain, .int .i64 limit, .slice A samples.length cA, .slice G gaps.length c], .slice B lines.length cB] w fun r w' => r = .returned (.bool true) ∧ Below w.heap.size w w' := by
  have HF := hide (fun W => fewFrame_c gain limit A G samples.length gaps.length cA c W)
  rw [hf] at HF
  have _u := And.intro hs (And.intro hr hx)
  clear hf hs hr hx _u
  go_enter Tryd.func3, Tryd.ntmps3
  go_wp2_with (first
    | (go_at_call 6; refine (awake_c _ (hT.bel (alloc_bel _ _))).mono ?_; rintro e w1 ⟨rfl, hb1⟩; have hW1 : Below w.heap.size w w1 := tr (alloc_bel _ _) hb1 (by simp); have hX1 := (Blk.new w 25 [.int .i64 gain, .int .i64 limit, .slice A samples.length cA, .slice G gaps.length c]).bel hb1; have c0 := hX1.cell 0; have c1 := hX1.cell 1; have c2 := hX1.cell 2; have c3 := hX1.cell 3; simp only [List.getElem?_cons_zero, List.getElem?_cons_succ] at c0 c1 c2 c3)
    | (go_at_call 7; refine (HF.out _).mono ?_; rintro e w2 ⟨rfl, hb2⟩; have hW2 := tr hW1 hb2 hW1.size; have hX2 := hX1.bel hb2; have c0 := hX2.cell 0; have c1 := hX2.cell 1; have c2 := hX2.cell 2; have c3 := hX2.cell 3; simp only [List.getElem?_cons_zero, List.getElem?_cons_succ] at c0 c1 c2 c3)
    )
  go_ret
  exact ⟨rfl, hW2⟩

theorem clean_2 (gain limit : Int) (A G B : Option Addr) (cA c cB : Nat) (samples : List (Int × Int)) (gaps lines : List Int) (w : World) (hT : Tab w) (hs : Rd w A (gs samples)) (hr : Rd w G (ints gaps)) (hx : Rd w B (ints lines)) (hf : fewB samples.length gaps.length = true) (h6 : 6 < lines.length) :
    Calls Tryd.prog 3 #[.agg #[.int .i64 gain, .int .i64 limit, .slice A samples.length cA, .slice G gaps.length c], .slice B lines.length cB] w fun r w' => r = .returned (.bool true) ∧ Below w.heap.size w w' := by
  have HF := hide (fun W => fewFrame_c gain limit A G samples.length gaps.length cA c W)
  rw [hf] at HF
  have _u := And.intro hs (And.intro hr hx)
  clear hf hs hr hx _u
  have d6 : decide ((6 : Int) < (lines.length : Int)) = true := by simp; omega
  clear h6
  go_enter Tryd.func3, Tryd.ntmps3
  go_wp2_with (first
    | (go_at_call 6; refine (awake_c _ (hT.bel (alloc_bel _ _))).mono ?_; rintro e w1 ⟨rfl, hb1⟩; have hW1 : Below w.heap.size w w1 := tr (alloc_bel _ _) hb1 (by simp); have hX1 := (Blk.new w 25 [.int .i64 gain, .int .i64 limit, .slice A samples.length cA, .slice G gaps.length c]).bel hb1; have c0 := hX1.cell 0; have c1 := hX1.cell 1; have c2 := hX1.cell 2; have c3 := hX1.cell 3; simp only [List.getElem?_cons_zero, List.getElem?_cons_succ] at c0 c1 c2 c3)
    | (go_at_call 7; refine (HF.out _).mono ?_; rintro e w2 ⟨rfl, hb2⟩; have hW2 := tr hW1 hb2 hW1.size; have hX2 := hX1.bel hb2; have c0 := hX2.cell 0; have c1 := hX2.cell 1; have c2 := hX2.cell 2; have c3 := hX2.cell 3; simp only [List.getElem?_cons_zero, List.getElem?_cons_succ] at c0 c1 c2 c3)
    )
  go_ret
  exact ⟨rfl, hW2⟩

theorem clean_3 (gain limit : Int) (A G B : Option Addr) (cA c cB : Nat) (samples : List (Int × Int)) (gaps lines : List Int) (w : World) (hT : Tab w) (hs : Rd w A (gs samples)) (hr : Rd w G (ints gaps)) (hx : Rd w B (ints lines)) (hf : fewB samples.length gaps.length = true) (h6 : lines.length ≤ 6) (he : (frameE gain limit samples gaps).2 ≠ 0) :
    Calls Tryd.prog 3 #[.agg #[.int .i64 gain, .int .i64 limit, .slice A samples.length cA, .slice G gaps.length c], .slice B lines.length cB] w fun r w' => r = .returned (.bool true) ∧ Below w.heap.size w w' := by
  have hq : samples.length ≤ 70 ∧ gaps.length ≤ 70 := by simpa [fewB] using hf
  have HF := hide (fun W => fewFrame_c gain limit A G samples.length gaps.length cA c W)
  rw [hf] at HF
  have HCP := hide (fun W h1 h2 => copyFrame_c gain limit A G cA c samples gaps W h1 h2 (by omega) (by omega))
  have HCI := hide (fun W h1 => copyInts_c lines B cB W h1 (by omega))
  have HFE : Hid (∀ W, Rd W A (gs samples) → Rd W G (ints gaps) → Calls Tryd.prog 11 #[.agg #[.int .i64 gain, .int .i64 limit, .slice A samples.length cA, .slice G gaps.length c]] W fun r w' => r = .returned (.int .i64 (frameE gain limit samples gaps).2) ∧ Below W.heap.size W w') :=
    fun W h1 h2 => frErr_c ⟨gain, limit, A, cA, samples, G, c, gaps⟩ W ⟨h1, h2, by show samples.length ≤ _; omega, by show gaps.length ≤ _; omega⟩
  have d6 : decide ((6 : Int) < (lines.length : Int)) = false := by simp; omega
  have hce : cleanE gain limit samples gaps lines = (frameE gain limit samples gaps).2 := by unfold cleanE; rw [if_pos he]
  have HCL := hide (fun (A' : Option Addr) (a' : Nat) (G' : Option Addr) (d' : Nat) (B' : Option Addr) (b' : Nat) W h1 h2 h3 => cleaned_bad gain limit A' G' B' a' d' b' samples gaps lines W h1 h2 h3 (by omega) (by omega) (by omega) (by rw [hce]; exact he))
  rw [hce] at HCL
  have HSF := hide (fun W => sameFrame_c 0 0 [] [] none none none none 0 0 0 0 0 0 W rfl rfl (by omega) (by omega) (Rd.nil _ _) (Rd.nil _ _) (Rd.nil _ _) (Rd.nil _ _))
  have e1 : ((frameE gain limit samples gaps).2 != 0) = true := by simpa using he
  have e2 : ((frameE gain limit samples gaps).2 == 0) = false := by simpa using he
  clear hf he hce hq h6
  generalize (frameE gain limit samples gaps).2 = E at HFE HCL e1 e2
  go_enter Tryd.func3, Tryd.ntmps3
  go_wp2_with (first
    | (go_at_call 6; refine (awake_c _ (hT.bel (alloc_bel _ _))).mono ?_; rintro e w1 ⟨rfl, hb1⟩; have hW1 : Below w.heap.size w w1 := tr (alloc_bel _ _) hb1 (by simp); have hX1 := (Blk.new w 25 [.int .i64 gain, .int .i64 limit, .slice A samples.length cA, .slice G gaps.length c]).bel hb1; have c0 := hX1.cell 0; have c1 := hX1.cell 1; have c2 := hX1.cell 2; have c3 := hX1.cell 3; simp only [List.getElem?_cons_zero, List.getElem?_cons_succ] at c0 c1 c2 c3)
    | (go_at_call 7; refine (HF.out _).mono ?_; rintro e w2 ⟨rfl, hb2⟩; have hW2 := tr hW1 hb2 hW1.size; have hX2 := hX1.bel hb2; have c0 := hX2.cell 0; have c1 := hX2.cell 1; have c2 := hX2.cell 2; have c3 := hX2.cell 3; simp only [List.getElem?_cons_zero, List.getElem?_cons_succ] at c0 c1 c2 c3)
    | (go_at_call 9; refine (HCP.out _ (hs.bel hW2) (hr.bel hW2)).mono ?_; rintro e w3 ⟨⟨A3, a3, G3, d3, rfl, hs3, hr3⟩, hb3⟩; have hW3 := tr hW2 hb3 hW2.size; have hX3 := hX2.bel hb3)
    | (go_at_call 10; refine (HCI.out _ (hx.bel hW3)).mono ?_; rintro e w4 ⟨⟨B4, b4, rfl, hx4⟩, hb4⟩; have hW4 := tr hW3 hb4 hW3.size; have hX4 := hX3.bel hb4)
    | (go_at_call 11; refine (HFE.out _ (hs.bel hW6) (hr.bel hW6)).mono ?_; rintro e w7 ⟨rfl, hb7⟩; have hW7 := tr hW6 hb7 hW6.size; have hX7 := hX6.bel hb7; have hR7 := hR6.bel hb7; have c0 := hX7.cell 0; have c1 := hX7.cell 1; have c2 := hX7.cell 2; have c3 := hX7.cell 3; simp only [List.getElem?_cons_zero, List.getElem?_cons_succ] at c0 c1 c2 c3; have r0 := hR7.cell 0; have r1 := hR7.cell 1; have r2 := hR7.cell 2; have r3 := hR7.cell 3; simp only [List.getElem?_cons_zero, List.getElem?_cons_succ] at r0 r1 r2 r3)
    | (go_at_call 12; refine (HLE.out _ (hx.bel hW7)).mono ?_; rintro e w8 ⟨rfl, hb8⟩; have hW8 := tr hW7 hb8 hW7.size; have hX8 := hX7.bel hb8; have hR8 := hR7.bel hb8; have c0 := hX8.cell 0; have c1 := hX8.cell 1; have c2 := hX8.cell 2; have c3 := hX8.cell 3; simp only [List.getElem?_cons_zero, List.getElem?_cons_succ] at c0 c1 c2 c3; have r0 := hR8.cell 0; have r1 := hR8.cell 1; have r2 := hR8.cell 2; have r3 := hR8.cell 3; simp only [List.getElem?_cons_zero, List.getElem?_cons_succ] at r0 r1 r2 r3)
    | (go_at_call 8; refine (HCL.out A3 a3 G3 d3 B4 b4 _ (hs3.1.bel hb4) (hr3.1.bel hb4) hx4.1).mono ?_; rintro e w5 ⟨rfl, hb5⟩; have hW5 := tr hW4 hb5 hW4.size; have hW6 := tr hW5 (alloc_bel w5 (.cells #[.int .i64 0, .int .i64 0, .slice none 0 0, .slice none 0 0] 25)) hW5.size; have hX6 := (hX4.bel hb5).bel (alloc_bel w5 (.cells #[.int .i64 0, .int .i64 0, .slice none 0 0, .slice none 0 0] 25)); have hR6 := Blk.new w5 25 [.int .i64 0, .int .i64 0, .slice none 0 0, .slice none 0 0]; have c0 := hX6.cell 0; have c1 := hX6.cell 1; have c2 := hX6.cell 2; have c3 := hX6.cell 3; simp only [List.getElem?_cons_zero, List.getElem?_cons_succ] at c0 c1 c2 c3)
    | (go_at_call 13; refine (HSF.out _).mono ?_; rintro e w9 ⟨rfl, hb9⟩)
    )
  go_ret
  exact ⟨rfl, tr hW7 hb9 hW7.size⟩

theorem clean_4 (gain limit : Int) (A G B : Option Addr) (cA c cB : Nat) (samples : List (Int × Int)) (gaps lines : List Int) (w : World) (hT : Tab w) (hs : Rd w A (gs samples)) (hr : Rd w G (ints gaps)) (hx : Rd w B (ints lines)) (hf : fewB samples.length gaps.length = true) (h6 : lines.length ≤ 6) (hv : (frameE gain limit samples gaps).2 = 0) (he : remE gain limit lines ≠ 0) :
    Calls Tryd.prog 3 #[.agg #[.int .i64 gain, .int .i64 limit, .slice A samples.length cA, .slice G gaps.length c], .slice B lines.length cB] w fun r w' => r = .returned (.bool true) ∧ Below w.heap.size w w' := by
  have hq : samples.length ≤ 70 ∧ gaps.length ≤ 70 := by simpa [fewB] using hf
  have HF := hide (fun W => fewFrame_c gain limit A G samples.length gaps.length cA c W)
  rw [hf] at HF
  have HCP := hide (fun W h1 h2 => copyFrame_c gain limit A G cA c samples gaps W h1 h2 (by omega) (by omega))
  have HCI := hide (fun W h1 => copyInts_c lines B cB W h1 (by omega))
  have HFE : Hid (∀ W, Rd W A (gs samples) → Rd W G (ints gaps) → Calls Tryd.prog 11 #[.agg #[.int .i64 gain, .int .i64 limit, .slice A samples.length cA, .slice G gaps.length c]] W fun r w' => r = .returned (.int .i64 (frameE gain limit samples gaps).2) ∧ Below W.heap.size W w') :=
    fun W h1 h2 => frErr_c ⟨gain, limit, A, cA, samples, G, c, gaps⟩ W ⟨h1, h2, by show samples.length ≤ _; omega, by show gaps.length ≤ _; omega⟩
  obtain ⟨hh, _, _⟩ := frameE_zero hv
  obtain ⟨q1, q2, l1, l2, n1, n2⟩ := headE_zero hh
  clear hh
  have HLE := hide (fun W h1 => refLinesErr_c gain limit A G B samples.length gaps.length cA c cB lines W h1 (by omega) ⟨l1, l2⟩ ⟨q1, q2⟩)
  have d6 : decide ((6 : Int) < (lines.length : Int)) = false := by simp; omega
  have hce : cleanE gain limit samples gaps lines = remE gain limit lines := by unfold cleanE; rw [if_neg (by simp [hv])]
  have HCL := hide (fun (A' : Option Addr) (a' : Nat) (G' : Option Addr) (d' : Nat) (B' : Option Addr) (b' : Nat) W h1 h2 h3 => cleaned_bad gain limit A' G' B' a' d' b' samples gaps lines W h1 h2 h3 (by omega) (by omega) (by omega) (by rw [hce]; exact he))
  rw [hce] at HCL
  rw [hv] at HFE
  have HSF := hide (fun W => sameFrame_c 0 0 [] [] none none none none 0 0 0 0 0 0 W rfl rfl (by omega) (by omega) (Rd.nil _ _) (Rd.nil _ _) (Rd.nil _ _) (Rd.nil _ _))
  have e1 : (remE gain limit lines != 0) = true := by simpa using he
  clear hf he hce hq h6 hv q1 q2 l1 l2 n1 n2
  generalize remE gain limit lines = E at HLE HCL e1
  go_enter Tryd.func3, Tryd.ntmps3
  go_wp2_with (first
    | (go_at_call 6; refine (awake_c _ (hT.bel (alloc_bel _ _))).mono ?_; rintro e w1 ⟨rfl, hb1⟩; have hW1 : Below w.heap.size w w1 := tr (alloc_bel _ _) hb1 (by simp); have hX1 := (Blk.new w 25 [.int .i64 gain, .int .i64 limit, .slice A samples.length cA, .slice G gaps.length c]).bel hb1; have c0 := hX1.cell 0; have c1 := hX1.cell 1; have c2 := hX1.cell 2; have c3 := hX1.cell 3; simp only [List.getElem?_cons_zero, List.getElem?_cons_succ] at c0 c1 c2 c3)
    | (go_at_call 7; refine (HF.out _).mono ?_; rintro e w2 ⟨rfl, hb2⟩; have hW2 := tr hW1 hb2 hW1.size; have hX2 := hX1.bel hb2; have c0 := hX2.cell 0; have c1 := hX2.cell 1; have c2 := hX2.cell 2; have c3 := hX2.cell 3; simp only [List.getElem?_cons_zero, List.getElem?_cons_succ] at c0 c1 c2 c3)
    | (go_at_call 9; refine (HCP.out _ (hs.bel hW2) (hr.bel hW2)).mono ?_; rintro e w3 ⟨⟨A3, a3, G3, d3, rfl, hs3, hr3⟩, hb3⟩; have hW3 := tr hW2 hb3 hW2.size; have hX3 := hX2.bel hb3)
    | (go_at_call 10; refine (HCI.out _ (hx.bel hW3)).mono ?_; rintro e w4 ⟨⟨B4, b4, rfl, hx4⟩, hb4⟩; have hW4 := tr hW3 hb4 hW3.size; have hX4 := hX3.bel hb4)
    | (go_at_call 11; refine (HFE.out _ (hs.bel hW6) (hr.bel hW6)).mono ?_; rintro e w7 ⟨rfl, hb7⟩; have hW7 := tr hW6 hb7 hW6.size; have hX7 := hX6.bel hb7; have hR7 := hR6.bel hb7; have c0 := hX7.cell 0; have c1 := hX7.cell 1; have c2 := hX7.cell 2; have c3 := hX7.cell 3; simp only [List.getElem?_cons_zero, List.getElem?_cons_succ] at c0 c1 c2 c3; have r0 := hR7.cell 0; have r1 := hR7.cell 1; have r2 := hR7.cell 2; have r3 := hR7.cell 3; simp only [List.getElem?_cons_zero, List.getElem?_cons_succ] at r0 r1 r2 r3)
    | (go_at_call 12; refine (HLE.out _ (hx.bel hW7)).mono ?_; rintro e w8 ⟨rfl, hb8⟩; have hW8 := tr hW7 hb8 hW7.size; have hX8 := hX7.bel hb8; have hR8 := hR7.bel hb8; have c0 := hX8.cell 0; have c1 := hX8.cell 1; have c2 := hX8.cell 2; have c3 := hX8.cell 3; simp only [List.getElem?_cons_zero, List.getElem?_cons_succ] at c0 c1 c2 c3; have r0 := hR8.cell 0; have r1 := hR8.cell 1; have r2 := hR8.cell 2; have r3 := hR8.cell 3; simp only [List.getElem?_cons_zero, List.getElem?_cons_succ] at r0 r1 r2 r3)
    | (go_at_call 8; refine (HCL.out A3 a3 G3 d3 B4 b4 _ (hs3.1.bel hb4) (hr3.1.bel hb4) hx4.1).mono ?_; rintro e w5 ⟨rfl, hb5⟩; have hW5 := tr hW4 hb5 hW4.size; have hW6 := tr hW5 (alloc_bel w5 (.cells #[.int .i64 0, .int .i64 0, .slice none 0 0, .slice none 0 0] 25)) hW5.size; have hX6 := (hX4.bel hb5).bel (alloc_bel w5 (.cells #[.int .i64 0, .int .i64 0, .slice none 0 0, .slice none 0 0] 25)); have hR6 := Blk.new w5 25 [.int .i64 0, .int .i64 0, .slice none 0 0, .slice none 0 0]; have c0 := hX6.cell 0; have c1 := hX6.cell 1; have c2 := hX6.cell 2; have c3 := hX6.cell 3; simp only [List.getElem?_cons_zero, List.getElem?_cons_succ] at c0 c1 c2 c3)
    | (go_at_call 13; refine (HSF.out _).mono ?_; rintro e w9 ⟨rfl, hb9⟩)
    )
  go_ret
  exact ⟨rfl, tr hW8 hb9 hW8.size⟩

theorem clean_5 (gain limit : Int) (A G B : Option Addr) (cA c cB : Nat) (samples : List (Int × Int)) (gaps lines : List Int) (w : World) (hT : Tab w) (hs : Rd w A (gs samples)) (hr : Rd w G (ints gaps)) (hx : Rd w B (ints lines)) (hf : fewB samples.length gaps.length = true) (h6 : lines.length ≤ 6) (hv : (frameE gain limit samples gaps).2 = 0) (he : remE gain limit lines = 0) :
    Calls Tryd.prog 3 #[.agg #[.int .i64 gain, .int .i64 limit, .slice A samples.length cA, .slice G gaps.length c], .slice B lines.length cB] w fun r w' => r = .returned (.bool true) ∧ Below w.heap.size w w' := by
  have hq : samples.length ≤ 70 ∧ gaps.length ≤ 70 := by simpa [fewB] using hf
  have HF := hide (fun W => fewFrame_c gain limit A G samples.length gaps.length cA c W)
  rw [hf] at HF
  have HCP := hide (fun W h1 h2 => copyFrame_c gain limit A G cA c samples gaps W h1 h2 (by omega) (by omega))
  have HCI := hide (fun W h1 => copyInts_c lines B cB W h1 (by omega))
  have HFE : Hid (∀ W, Rd W A (gs samples) → Rd W G (ints gaps) → Calls Tryd.prog 11 #[.agg #[.int .i64 gain, .int .i64 limit, .slice A samples.length cA, .slice G gaps.length c]] W fun r w' => r = .returned (.int .i64 (frameE gain limit samples gaps).2) ∧ Below W.heap.size W w') :=
    fun W h1 h2 => frErr_c ⟨gain, limit, A, cA, samples, G, c, gaps⟩ W ⟨h1, h2, by show samples.length ≤ _; omega, by show gaps.length ≤ _; omega⟩
  obtain ⟨hh, hsamp, _⟩ := frameE_zero hv
  obtain ⟨q1, q2, l1, l2, n1, n2⟩ := headE_zero hh
  clear hh
  have hz : linesE lines = 0 := by
    unfold remE at he
    by_cases h : linesE lines = 0
    · exact h
    · rw [if_pos h] at he; exact he
  have HLE := hide (fun W h1 => refLinesErr_c gain limit A G B samples.length gaps.length cA c cB lines W h1 (by omega) ⟨l1, l2⟩ ⟨q1, q2⟩)
  have HRC := hide (fun W h1 h2 h3 => refCleaned_c gain limit A G B cA c cB samples gaps lines W h1 h2 h3 (by omega) (by omega) (lines_four hz) (lines_in hz) (fun q hq => by have := hsamp q hq; simp only [gle]; omega) ⟨q1, q2⟩ ⟨by omega, l2⟩)
  have d6 : decide ((6 : Int) < (lines.length : Int)) = false := by simp; omega
  have HCL := hide (fun (A' : Option Addr) (a' : Nat) (G' : Option Addr) (d' : Nat) (B' : Option Addr) (b' : Nat) W h0 h1 h2 h3 => cleaned_ok gain limit A' G' B' a' d' b' samples gaps lines W h0 h1 h2 h3 (by omega) (by omega) (by omega) hv he)
  rw [hv] at HFE
  rw [he] at HLE
  have hil : (idxL (usableL limit samples gaps) false samples.length).length ≤ 1000 := Nat.le_trans (idxL_le _ _ _) (by omega)
  have hcl := cleanL_length samples (usableL limit samples gaps) lines samples.length
  have HN := hide (show samples.length ≤ 1000 by omega)
  clear hf he hq h6 hv q1 q2 l1 l2 n1 n2 hz hsamp
  generalize idxL (usableL limit samples gaps) false samples.length = LI at HRC HCL hil
  generalize cleanL samples (usableL limit samples gaps) lines samples.length = LC at HRC HCL hcl
  have HSF := hide (fun (A1 A2 G1 G2 : Option Addr) (p1 p2 p3 p4 : Nat) W h1 h2 h3 h4 => sameFrame_c (gain - 2) (20 * limit) LC LI A1 A2 G1 G2 p1 p2 p3 p4 samples.length LI.length W hcl rfl HN.out hil h1 h2 h3 h4)
  clear hcl hil
  generalize gain - 2 = g2 at HRC HCL HSF
  generalize 20 * limit = l2 at HRC HCL HSF
  go_enter Tryd.func3, Tryd.ntmps3
  go_upto_region 11 with (first
    | (go_at_call 6; refine (awake_c _ (hT.bel (alloc_bel _ _))).mono ?_; rintro e w1 ⟨rfl, hb1⟩; have hW1 : Below w.heap.size w w1 := tr (alloc_bel _ _) hb1 (by simp); have hX1 := (Blk.new w 25 [.int .i64 gain, .int .i64 limit, .slice A samples.length cA, .slice G gaps.length c]).bel hb1; have c0 := hX1.cell 0; have c1 := hX1.cell 1; have c2 := hX1.cell 2; have c3 := hX1.cell 3; simp only [List.getElem?_cons_zero, List.getElem?_cons_succ] at c0 c1 c2 c3)
    | (go_at_call 7; refine (HF.out _).mono ?_; rintro e w2 ⟨rfl, hb2⟩; have hW2 := tr hW1 hb2 hW1.size; have hX2 := hX1.bel hb2; have c0 := hX2.cell 0; have c1 := hX2.cell 1; have c2 := hX2.cell 2; have c3 := hX2.cell 3; simp only [List.getElem?_cons_zero, List.getElem?_cons_succ] at c0 c1 c2 c3)
    | (go_at_call 9; refine (HCP.out _ (hs.bel hW2) (hr.bel hW2)).mono ?_; rintro e w3 ⟨⟨A3, a3, G3, d3, rfl, hs3, hr3⟩, hb3⟩; have hW3 := tr hW2 hb3 hW2.size; have hX3 := hX2.bel hb3)
    | (go_at_call 10; refine (HCI.out _ (hx.bel hW3)).mono ?_; rintro e w4 ⟨⟨B4, b4, rfl, hx4⟩, hb4⟩; have hW4 := tr hW3 hb4 hW3.size; have hX4 := hX3.bel hb4)
    | (go_at_call 11; refine (HFE.out _ (hs.bel hW6) (hr.bel hW6)).mono ?_; rintro e w7 ⟨rfl, hb7⟩; have hW7 := tr hW6 hb7 hW6.size; have hX7 := hX6.bel hb7; have hR7 := hR6.bel hb7; have c0 := hX7.cell 0; have c1 := hX7.cell 1; have c2 := hX7.cell 2; have c3 := hX7.cell 3; simp only [List.getElem?_cons_zero, List.getElem?_cons_succ] at c0 c1 c2 c3; have r0 := hR7.cell 0; have r1 := hR7.cell 1; have r2 := hR7.cell 2; have r3 := hR7.cell 3; simp only [List.getElem?_cons_zero, List.getElem?_cons_succ] at r0 r1 r2 r3)
    | (go_at_call 12; refine (HLE.out _ (hx.bel hW7)).mono ?_; rintro e w8 ⟨rfl, hb8⟩; have hW8 := tr hW7 hb8 hW7.size; have hX8 := hX7.bel hb8; have hR8 := hR7.bel hb8; have c0 := hX8.cell 0; have c1 := hX8.cell 1; have c2 := hX8.cell 2; have c3 := hX8.cell 3; simp only [List.getElem?_cons_zero, List.getElem?_cons_succ] at c0 c1 c2 c3; have r0 := hR8.cell 0; have r1 := hR8.cell 1; have r2 := hR8.cell 2; have r3 := hR8.cell 3; simp only [List.getElem?_cons_zero, List.getElem?_cons_succ] at r0 r1 r2 r3)
    | (go_at_call 8; refine (HCL.out A3 a3 G3 d3 B4 b4 _ (hT.bel hW4) (hs3.1.bel hb4) (hr3.1.bel hb4) hx4.1).mono ?_; rintro e w5 ⟨⟨A5, a5, G5, d5, rfl, hs5, hr5⟩, hb5⟩; have hW5 := tr hW4 hb5 hW4.size; have hW6 := tr hW5 (alloc_bel w5 (.cells #[.int .i64 g2, .int .i64 l2, .slice A5 samples.length a5, .slice G5 LI.length d5] 25)) hW5.size; have hX6 := (hX4.bel hb5).bel (alloc_bel w5 (.cells #[.int .i64 g2, .int .i64 l2, .slice A5 samples.length a5, .slice G5 LI.length d5] 25)); have hR6 := Blk.new w5 25 [.int .i64 g2, .int .i64 l2, .slice A5 samples.length a5, .slice G5 LI.length d5]; have hs6 := hs5.bel (alloc_bel w5 (.cells #[.int .i64 g2, .int .i64 l2, .slice A5 samples.length a5, .slice G5 LI.length d5] 25)); have hr6 := hr5.bel (alloc_bel w5 (.cells #[.int .i64 g2, .int .i64 l2, .slice A5 samples.length a5, .slice G5 LI.length d5] 25)); have c0 := hX6.cell 0; have c1 := hX6.cell 1; have c2 := hX6.cell 2; have c3 := hX6.cell 3; simp only [List.getElem?_cons_zero, List.getElem?_cons_succ] at c0 c1 c2 c3)
    )
  have HA8 := hide ((hs6.1.bel hb7).bel hb8)
  have HG8 := hide ((hr6.1.bel hb7).bel hb8)
  have HS8 := hide (hs.bel hW8)
  have HR8 := hide (hr.bel hW8)
  have HX8 := hide (hx.bel hW8)
  have hXl := hX8.lt
  have hRl := hR8.lt
  go_region_held3 (fun w' => (∀ b o, b < w8.heap.size → w'.cell? ⟨b, o, none⟩ = w8.cell? ⟨b, o, none⟩) ∧ Below w8.heap.size w8 w')
    ((refine kp ?_; (repeat' (first | with_reducible exact Below.refl _ _ | with_reducible exact HB9.out | with_reducible exact HB10.out | with_reducible refine Below.drew ?_ | with_reducible refine bel_alloc ?_ ?_ _)); all_goals (first | omega | (simp <;> omega))))
    (first
      | (go_at_call 14; refine (HRC.out _ (HS8.out.bel (Below.refl _ _).drew) (HR8.out.bel (Below.refl _ _).drew) (HX8.out.bel (Below.refl _ _).drew)).mono ?_; rintro e w9 ⟨⟨A9, a9, G9, d9, rfl, hs9, hr9⟩, hb9⟩; have HB9 : Hid (Below w8.heap.size w8 w9) := (Below.refl _ _).drew.trans hb9; have s9 := HB9.out.size)
      | (go_at_call 13; refine (HSF.out A5 A9 G5 G9 a5 d5 a9 d9 _ (HA8.out.bel HB9.out) hs9.1 (HG8.out.bel HB9.out) hr9.1).mono ?_; rintro e w10 ⟨rfl, hb10⟩; have HB10 : Hid (Below w8.heap.size w8 w10) := bel_tr HB9.out s9 hb10; have s10 := HB10.out.size))
  go_wp2
  go_ret
  exact ⟨rfl, tr hW8 HB10.out hW8.size⟩

theorem cleanLaw_c (gain limit : Int) (A G B : Option Addr) (cA c cB : Nat) (samples : List (Int × Int)) (gaps lines : List Int) (w : World) (hT : Tab w) (hs : Rd w A (gs samples)) (hr : Rd w G (ints gaps)) (hx : Rd w B (ints lines)) :
    Calls Tryd.prog 3 #[.agg #[.int .i64 gain, .int .i64 limit, .slice A samples.length cA, .slice G gaps.length c], .slice B lines.length cB] w fun r w' => r = .returned (.bool true) ∧ Below w.heap.size w w' := by
  cases hf : fewB samples.length gaps.length
  · exact clean_1 gain limit A G B cA c cB samples gaps lines w hT hs hr hx hf
  · by_cases h6 : 6 < lines.length
    · exact clean_2 gain limit A G B cA c cB samples gaps lines w hT hs hr hx hf h6
    · by_cases hv : (frameE gain limit samples gaps).2 = 0
      · by_cases he : remE gain limit lines = 0
        · exact clean_5 gain limit A G B cA c cB samples gaps lines w hT hs hr hx hf (by omega) hv he
        · exact clean_4 gain limit A G B cA c cB samples gaps lines w hT hs hr hx hf (by omega) hv he
      · exact clean_3 gain limit A G B cA c cB samples gaps lines w hT hs hr hx hf (by omega) hv
end Go.Proofs.YtnigmdkhecblnaaDoor
