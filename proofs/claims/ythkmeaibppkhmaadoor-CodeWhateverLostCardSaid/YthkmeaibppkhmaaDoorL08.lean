/- The law CodeLines: the call returns true, and nothing that was there turns. Condition: the laid table. -/
import Derived.Test.YthkmeaibppkhmaaDoorR9
import Derived.Test.YthkmeaibppkhmaaDoorL07
namespace Go.Proofs.YthkmeaibppkhmaaDoor
open Go.RowKit
set_option maxRecDepth 100000

theorem sameLine_c (lv : List (Int × Int)) (lm : List Int) (V V' M M' : Option Addr) (q1 q2 q3 q4 n m : Nat) (w : World) (hn : lv.length = n) (hm : lm.length = m) (hl : n ≤ 1000) (hk : m ≤ 1000) (h1 : Rd w V (gs lv)) (h2 : Rd w V' (gs lv)) (h3 : Rd w M (ints lm)) (h4 : Rd w M' (ints lm)) :
    Calls Tryd.prog 64 #[.agg #[.slice V n q1, .slice M m q2], .agg #[.slice V' n q3, .slice M' m q4]] w fun r w' => r = .returned (.bool true) ∧ Below w.heap.size w w' := by
  subst hn hm
  have hX := Blk.new w 89 [.slice V lv.length q1, .slice M lm.length q2]
  have hY := Blk.new2 w 89 89 [.slice V lv.length q1, .slice M lm.length q2] [.slice V' lv.length q3, .slice M' lm.length q4]
  go_enter Tryd.func64, Tryd.ntmps64
  go_upto_region 1 with fail
  obtain ⟨W, hW⟩ : ∃ W, (w.alloc (.cells #[.slice V lv.length q1, .slice M lm.length q2] 89)).alloc (.cells #[.slice V' lv.length q3, .slice M' lm.length q4] 89) = W := ⟨_, rfl⟩
  have hwW : Below w.heap.size w W := by rw [← hW]; exact (alloc_bel _ _).alloc (by simp) _
  have hXW : Blk W w.heap.size 89 [.slice V lv.length q1, .slice M lm.length q2] := by rw [← hW]; exact hX.bel (alloc_bel _ _)
  have hYW : Blk W (w.heap.size + 1) 89 [.slice V' lv.length q3, .slice M' lm.length q4] := by rw [← hW]; exact hY
  rw [hW]
  clear hW hX hY
  have c0 := hXW.cell 0; have c1 := hXW.cell 1; simp only [List.getElem?_cons_zero, List.getElem?_cons_succ] at c0 c1
  have y0 := hYW.cell 0; have y1 := hYW.cell 1; simp only [List.getElem?_cons_zero, List.getElem?_cons_succ] at y0 y1
  go_wp2_with (first
    | (go_at_call 24; refine (gausses_same lv V V' q1 q3 _ (h1.bel hwW) (h2.bel hwW) hl).mono ?_; rintro e w1 ⟨rfl, hb1⟩; have hW1 := tr hwW hb1 hwW.size; have hX1 := hXW.bel hb1; have hY1 := hYW.bel hb1; have c0 := hX1.cell 0; have c1 := hX1.cell 1; simp only [List.getElem?_cons_zero, List.getElem?_cons_succ] at c0 c1; have y0 := hY1.cell 0; have y1 := hY1.cell 1; simp only [List.getElem?_cons_zero, List.getElem?_cons_succ] at y0 y1)
    | (go_at_call 31; refine (ints_same lm M M' q2 q4 _ (h3.bel hW1) (h4.bel hW1) hk).mono ?_; rintro e w2 ⟨rfl, hb2⟩; have hW2 := tr hW1 hb2 hW1.size))
  go_ret
  exact ⟨rfl, hW2⟩

theorem frameErr_c (gain limit : Int) (A G : Option Addr) (cA c : Nat) (samples : List (Int × Int)) (gaps : List Int) (w : World) (hs : Rd w A (gs samples)) (hr : Rd w G (ints gaps)) (hn : samples.length ≤ 1000) (hg : gaps.length ≤ 1000) :
    Calls Tryd.prog 62 #[.agg #[.int .i64 gain, .int .i64 limit, .slice A samples.length cA, .slice G gaps.length c]] w fun r w' =>
      r = .returned (.int .i64 (frameE gain limit samples gaps).2) ∧ Below w.heap.size w w' := by
  have HRC := hide (fun W h1 h2 => refCheckFrame_c gain limit A G cA c samples gaps W h1 h2 (by omega) (by omega))
  have hX := Blk.new w 81 [.int .i64 gain, .int .i64 limit, .slice A samples.length cA, .slice G gaps.length c]
  generalize (frameE gain limit samples gaps).2 = E at HRC ⊢
  generalize (frameE gain limit samples gaps).1 = I at HRC
  have c0 := hX.cell 0; have c1 := hX.cell 1; have c2 := hX.cell 2; have c3 := hX.cell 3; simp only [List.getElem?_cons_zero, List.getElem?_cons_succ] at c0 c1 c2 c3
  go_enter Tryd.func62, Tryd.ntmps62
  go_wp2_with (first | (go_at_call 58; refine (HRC.out _ (hs.bel (alloc_bel _ _)) (hr.bel (alloc_bel _ _))).mono ?_; rintro e w1 ⟨rfl, hb1⟩; have hW1 : Below w.heap.size w w1 := tr (alloc_bel _ _) hb1 (by simp)))
  go_ret
  exact ⟨rfl, hW1⟩


theorem lines_1 (gain limit : Int) (A G B : Option Addr) (cA c cB : Nat) (samples wave : List (Int × Int)) (gaps : List Int) (w : World) (hT : Tab w) (hs : Rd w A (gs samples)) (hr : Rd w G (ints gaps)) (hv : Rd w B (gs wave)) (hf : fewB samples.length gaps.length = false) :
    Calls Tryd.prog 10 #[.agg #[.int .i64 gain, .int .i64 limit, .slice A samples.length cA, .slice G gaps.length c], .slice B wave.length cB] w fun r w' => r = .returned (.bool true) ∧ Below w.heap.size w w' := by
  have HF := hide (fun W => fewFrame_c gain limit A G samples.length gaps.length cA c W)
  rw [hf] at HF
  have _u := And.intro hs (And.intro hr hv)
  clear hf hs hr hv _u
  go_enter Tryd.func10, Tryd.ntmps10
  go_wp2_with (first
    | (go_at_call 15; refine (awake_c _ (hT.bel (alloc_bel _ _))).mono ?_; rintro e w1 ⟨rfl, hb1⟩; have hW1 : Below w.heap.size w w1 := tr (alloc_bel _ _) hb1 (by simp); have hX1 := (Blk.new w 81 [.int .i64 gain, .int .i64 limit, .slice A samples.length cA, .slice G gaps.length c]).bel hb1; have c0 := hX1.cell 0; have c1 := hX1.cell 1; have c2 := hX1.cell 2; have c3 := hX1.cell 3; simp only [List.getElem?_cons_zero, List.getElem?_cons_succ] at c0 c1 c2 c3)
    | (go_at_call 54; refine (HF.out _).mono ?_; rintro e w2 ⟨rfl, hb2⟩; have hW2 := tr hW1 hb2 hW1.size)
    )
  go_ret
  exact ⟨rfl, hW2⟩

theorem lines_2 (gain limit : Int) (A G B : Option Addr) (cA c cB : Nat) (samples wave : List (Int × Int)) (gaps : List Int) (w : World) (hT : Tab w) (hs : Rd w A (gs samples)) (hr : Rd w G (ints gaps)) (hv : Rd w B (gs wave)) (hf : fewB samples.length gaps.length = true) (hl : 34 < wave.length) :
    Calls Tryd.prog 10 #[.agg #[.int .i64 gain, .int .i64 limit, .slice A samples.length cA, .slice G gaps.length c], .slice B wave.length cB] w fun r w' => r = .returned (.bool true) ∧ Below w.heap.size w w' := by
  have HF := hide (fun W => fewFrame_c gain limit A G samples.length gaps.length cA c W)
  rw [hf] at HF
  have d34 : decide ((34 : Int) < (wave.length : Int)) = true := by simp; omega
  have _u := And.intro hs (And.intro hr hv)
  clear hf hs hr hv hl _u
  go_enter Tryd.func10, Tryd.ntmps10
  go_wp2_with (first
    | (go_at_call 15; refine (awake_c _ (hT.bel (alloc_bel _ _))).mono ?_; rintro e w1 ⟨rfl, hb1⟩; have hW1 : Below w.heap.size w w1 := tr (alloc_bel _ _) hb1 (by simp); have hX1 := (Blk.new w 81 [.int .i64 gain, .int .i64 limit, .slice A samples.length cA, .slice G gaps.length c]).bel hb1; have c0 := hX1.cell 0; have c1 := hX1.cell 1; have c2 := hX1.cell 2; have c3 := hX1.cell 3; simp only [List.getElem?_cons_zero, List.getElem?_cons_succ] at c0 c1 c2 c3)
    | (go_at_call 54; refine (HF.out _).mono ?_; rintro e w2 ⟨rfl, hb2⟩; have hW2 := tr hW1 hb2 hW1.size)
    )
  go_ret
  exact ⟨rfl, hW2⟩

theorem lines_3 (gain limit : Int) (A G B : Option Addr) (cA c cB : Nat) (samples wave : List (Int × Int)) (gaps : List Int) (w : World) (hT : Tab w) (hs : Rd w A (gs samples)) (hr : Rd w G (ints gaps)) (hv : Rd w B (gs wave)) (hf : fewB samples.length gaps.length = true) (hl : wave.length ≤ 34) (h1 : (frameE gain limit samples gaps).2 ≠ 0) :
    Calls Tryd.prog 10 #[.agg #[.int .i64 gain, .int .i64 limit, .slice A samples.length cA, .slice G gaps.length c], .slice B wave.length cB] w fun r w' => r = .returned (.bool true) ∧ Below w.heap.size w w' := by
  have hq : samples.length ≤ 70 ∧ gaps.length ≤ 70 := by simpa [fewB] using hf
  have HF := hide (fun W => fewFrame_c gain limit A G samples.length gaps.length cA c W)
  rw [hf] at HF
  have d34 : decide ((34 : Int) < (wave.length : Int)) = false := by simp; omega
  have HCP := hide (fun W h1 h2 => copyFrame_c gain limit A G cA c samples gaps W h1 h2 (by omega) (by omega))
  have HRC := hide (fun W h1 h2 => frameErr_c gain limit A G cA c samples gaps W h1 h2 (by omega) (by omega))
  have HRW := hide (fun W h1 => refWaveErr_c B cB wave W h1 (by omega))
  have e0 : compE gain limit samples gaps wave = (frameE gain limit samples gaps).2 := by unfold compE firstE; rw [if_neg h1]
  have hE : compE gain limit samples gaps wave ≠ 0 := by rw [e0]; exact h1
  have HCE := hide (fun (A' : Option Addr) (a' : Nat) (G' : Option Addr) (d' : Nat) (B' : Option Addr) (b' : Nat) W h0 h1 h2 h3 => compressed_err gain limit A' G' B' a' d' b' samples wave gaps W h0 h1 h2 h3 (by omega) (by omega) (by omega) hE)
  have e1 : ((frameE gain limit samples gaps).2 == 0) = false := by simpa using h1
  have e2 : ((frameE gain limit samples gaps).2 != 0) = true := by simpa using h1
  rw [e0] at HCE
  clear hf hE e0 h1
  generalize (frameE gain limit samples gaps).2 = E at HCE HRC e1 e2
  go_enter Tryd.func10, Tryd.ntmps10
  go_upto_region 6 with (first
    | (go_at_call 15; refine (awake_c _ (hT.bel (alloc_bel _ _))).mono ?_; rintro e w1 ⟨rfl, hb1⟩; have hW1 : Below w.heap.size w w1 := tr (alloc_bel _ _) hb1 (by simp); have hX1 := (Blk.new w 81 [.int .i64 gain, .int .i64 limit, .slice A samples.length cA, .slice G gaps.length c]).bel hb1; have c0 := hX1.cell 0; have c1 := hX1.cell 1; have c2 := hX1.cell 2; have c3 := hX1.cell 3; simp only [List.getElem?_cons_zero, List.getElem?_cons_succ] at c0 c1 c2 c3)
    | (go_at_call 54; refine (HF.out _).mono ?_; rintro e w2 ⟨rfl, hb2⟩; have hW2 := tr hW1 hb2 hW1.size; have hX2 := hX1.bel hb2; have c0 := hX2.cell 0; have c1 := hX2.cell 1; have c2 := hX2.cell 2; have c3 := hX2.cell 3; simp only [List.getElem?_cons_zero, List.getElem?_cons_succ] at c0 c1 c2 c3)
    | (go_at_call 56; refine (HCP.out _ (hs.bel hW2) (hr.bel hW2)).mono ?_; rintro e w3 ⟨⟨A3, a3, G3, d3, rfl, hs3, hr3⟩, hb3⟩; have hW3 := tr hW2 hb3 hW2.size; have hX3 := hX2.bel hb3; have c0 := hX3.cell 0; have c1 := hX3.cell 1; have c2 := hX3.cell 2; have c3 := hX3.cell 3; simp only [List.getElem?_cons_zero, List.getElem?_cons_succ] at c0 c1 c2 c3)
    | (go_at_call 61; refine (copyGausses_c wave B cB _ (hv.bel hW3) (by omega)).mono ?_; rintro e w4 ⟨⟨B4, b4, rfl, hv4⟩, hb4⟩; have hW4 := tr hW3 hb4 hW3.size; have hX4 := hX3.bel hb4; have c0 := hX4.cell 0; have c1 := hX4.cell 1; have c2 := hX4.cell 2; have c3 := hX4.cell 3; simp only [List.getElem?_cons_zero, List.getElem?_cons_succ] at c0 c1 c2 c3)
    | (go_at_call 60; refine (HCE.out A3 a3 G3 d3 B4 b4 _ (hT.bel hW4) (hs3.bel hb4).1 (hr3.bel hb4).1 hv4.1).mono ?_; rintro e w5 ⟨rfl, hb5⟩; have hW5 := tr hW4 hb5 hW4.size; have hX5 := hX4.bel hb5; have hL5 := Blk.new w5 89 [.slice none 0 0, .slice none 0 0]; have y0 := hL5.cell 0; have y1 := hL5.cell 1; simp only [List.getElem?_cons_zero, List.getElem?_cons_succ] at y0 y1; have f0 := hL5.frozen 0; have f1 := hL5.frozen 1)
    )
  obtain ⟨w6, hw6⟩ : ∃ w6, w5.alloc (.cells #[.slice none 0 0, .slice none 0 0] 89) = w6 := ⟨_, rfl⟩
  have hb6 : Below w5.heap.size w5 w6 := by rw [← hw6]; exact alloc_bel _ _
  have hL6 : Blk w6 w5.heap.size 89 [.slice none 0 0, .slice none 0 0] := by rw [← hw6]; exact hL5
  have hX6 := hX5.bel hb6
  have hW6 := tr hW5 hb6 hW5.size
  rw [hw6]
  clear hw6 y0 y1 f0 f1 hL5
  have c0 := hX6.cell 0; have c1 := hX6.cell 1; have c2 := hX6.cell 2; have c3 := hX6.cell 3; simp only [List.getElem?_cons_zero, List.getElem?_cons_succ] at c0 c1 c2 c3
  have y0 := hL6.cell 0; have y1 := hL6.cell 1; simp only [List.getElem?_cons_zero, List.getElem?_cons_succ] at y0 y1
  go_wp2_with (first
    | (go_at_call 62; refine (HRC.out _ (hs.bel hW6) (hr.bel hW6)).mono ?_; rintro e w7 ⟨rfl, hb7⟩; have hW7 := tr hW6 hb7 hW6.size; have hX7 := hX6.bel hb7; have hL7 := hL6.bel hb7; have c0 := hX7.cell 0; have c1 := hX7.cell 1; have c2 := hX7.cell 2; have c3 := hX7.cell 3; simp only [List.getElem?_cons_zero, List.getElem?_cons_succ] at c0 c1 c2 c3; have y0 := hL7.cell 0; have y1 := hL7.cell 1; simp only [List.getElem?_cons_zero, List.getElem?_cons_succ] at y0 y1)
    | (go_at_call 64; refine (sameLine_c [] [] none none none none 0 0 0 0 0 0 _ rfl rfl (by omega) (by omega) (Rd.nil _ _) (Rd.nil _ _) (Rd.nil _ _) (Rd.nil _ _)).mono ?_; rintro e w9 ⟨rfl, hb9⟩; have hW9 := tr hW7 hb9 hW7.size)
    )
  go_ret
  exact ⟨rfl, hW9⟩

theorem lines_4 (gain limit : Int) (A G B : Option Addr) (cA c cB : Nat) (samples wave : List (Int × Int)) (gaps : List Int) (w : World) (hT : Tab w) (hs : Rd w A (gs samples)) (hr : Rd w G (ints gaps)) (hv : Rd w B (gs wave)) (hf : fewB samples.length gaps.length = true) (hl : wave.length ≤ 34) (h1 : (frameE gain limit samples gaps).2 = 0) (h2 : waveErr wave ≠ 0) :
    Calls Tryd.prog 10 #[.agg #[.int .i64 gain, .int .i64 limit, .slice A samples.length cA, .slice G gaps.length c], .slice B wave.length cB] w fun r w' => r = .returned (.bool true) ∧ Below w.heap.size w w' := by
  have hq : samples.length ≤ 70 ∧ gaps.length ≤ 70 := by simpa [fewB] using hf
  have HF := hide (fun W => fewFrame_c gain limit A G samples.length gaps.length cA c W)
  rw [hf] at HF
  have d34 : decide ((34 : Int) < (wave.length : Int)) = false := by simp; omega
  have HCP := hide (fun W h1 h2 => copyFrame_c gain limit A G cA c samples gaps W h1 h2 (by omega) (by omega))
  have HRC := hide (fun W h1 h2 => frameErr_c gain limit A G cA c samples gaps W h1 h2 (by omega) (by omega))
  have HRW := hide (fun W h1 => refWaveErr_c B cB wave W h1 (by omega))
  have e0 : compE gain limit samples gaps wave = waveErr wave := by unfold compE firstE; rw [if_pos h1]; unfold firstE; rw [if_neg h2]
  have hE : compE gain limit samples gaps wave ≠ 0 := by rw [e0]; exact h2
  have HCE := hide (fun (A' : Option Addr) (a' : Nat) (G' : Option Addr) (d' : Nat) (B' : Option Addr) (b' : Nat) W h0 h1 h2 h3 => compressed_err gain limit A' G' B' a' d' b' samples wave gaps W h0 h1 h2 h3 (by omega) (by omega) (by omega) hE)
  have e1 : (waveErr wave == 0) = false := by simpa using h2
  have e2 : (waveErr wave != 0) = true := by simpa using h2
  rw [e0] at HCE
  rw [h1] at HRC
  clear hf hE e0 h1 h2
  generalize waveErr wave = E at HCE HRW e1 e2
  go_enter Tryd.func10, Tryd.ntmps10
  go_upto_region 6 with (first
    | (go_at_call 15; refine (awake_c _ (hT.bel (alloc_bel _ _))).mono ?_; rintro e w1 ⟨rfl, hb1⟩; have hW1 : Below w.heap.size w w1 := tr (alloc_bel _ _) hb1 (by simp); have hX1 := (Blk.new w 81 [.int .i64 gain, .int .i64 limit, .slice A samples.length cA, .slice G gaps.length c]).bel hb1; have c0 := hX1.cell 0; have c1 := hX1.cell 1; have c2 := hX1.cell 2; have c3 := hX1.cell 3; simp only [List.getElem?_cons_zero, List.getElem?_cons_succ] at c0 c1 c2 c3)
    | (go_at_call 54; refine (HF.out _).mono ?_; rintro e w2 ⟨rfl, hb2⟩; have hW2 := tr hW1 hb2 hW1.size; have hX2 := hX1.bel hb2; have c0 := hX2.cell 0; have c1 := hX2.cell 1; have c2 := hX2.cell 2; have c3 := hX2.cell 3; simp only [List.getElem?_cons_zero, List.getElem?_cons_succ] at c0 c1 c2 c3)
    | (go_at_call 56; refine (HCP.out _ (hs.bel hW2) (hr.bel hW2)).mono ?_; rintro e w3 ⟨⟨A3, a3, G3, d3, rfl, hs3, hr3⟩, hb3⟩; have hW3 := tr hW2 hb3 hW2.size; have hX3 := hX2.bel hb3; have c0 := hX3.cell 0; have c1 := hX3.cell 1; have c2 := hX3.cell 2; have c3 := hX3.cell 3; simp only [List.getElem?_cons_zero, List.getElem?_cons_succ] at c0 c1 c2 c3)
    | (go_at_call 61; refine (copyGausses_c wave B cB _ (hv.bel hW3) (by omega)).mono ?_; rintro e w4 ⟨⟨B4, b4, rfl, hv4⟩, hb4⟩; have hW4 := tr hW3 hb4 hW3.size; have hX4 := hX3.bel hb4; have c0 := hX4.cell 0; have c1 := hX4.cell 1; have c2 := hX4.cell 2; have c3 := hX4.cell 3; simp only [List.getElem?_cons_zero, List.getElem?_cons_succ] at c0 c1 c2 c3)
    | (go_at_call 60; refine (HCE.out A3 a3 G3 d3 B4 b4 _ (hT.bel hW4) (hs3.bel hb4).1 (hr3.bel hb4).1 hv4.1).mono ?_; rintro e w5 ⟨rfl, hb5⟩; have hW5 := tr hW4 hb5 hW4.size; have hX5 := hX4.bel hb5; have hL5 := Blk.new w5 89 [.slice none 0 0, .slice none 0 0]; have y0 := hL5.cell 0; have y1 := hL5.cell 1; simp only [List.getElem?_cons_zero, List.getElem?_cons_succ] at y0 y1; have f0 := hL5.frozen 0; have f1 := hL5.frozen 1)
    )
  obtain ⟨w6, hw6⟩ : ∃ w6, w5.alloc (.cells #[.slice none 0 0, .slice none 0 0] 89) = w6 := ⟨_, rfl⟩
  have hb6 : Below w5.heap.size w5 w6 := by rw [← hw6]; exact alloc_bel _ _
  have hL6 : Blk w6 w5.heap.size 89 [.slice none 0 0, .slice none 0 0] := by rw [← hw6]; exact hL5
  have hX6 := hX5.bel hb6
  have hW6 := tr hW5 hb6 hW5.size
  rw [hw6]
  clear hw6 y0 y1 f0 f1 hL5
  have c0 := hX6.cell 0; have c1 := hX6.cell 1; have c2 := hX6.cell 2; have c3 := hX6.cell 3; simp only [List.getElem?_cons_zero, List.getElem?_cons_succ] at c0 c1 c2 c3
  have y0 := hL6.cell 0; have y1 := hL6.cell 1; simp only [List.getElem?_cons_zero, List.getElem?_cons_succ] at y0 y1
  go_wp2_with (first
    | (go_at_call 62; refine (HRC.out _ (hs.bel hW6) (hr.bel hW6)).mono ?_; rintro e w7 ⟨rfl, hb7⟩; have hW7 := tr hW6 hb7 hW6.size; have hX7 := hX6.bel hb7; have hL7 := hL6.bel hb7; have c0 := hX7.cell 0; have c1 := hX7.cell 1; have c2 := hX7.cell 2; have c3 := hX7.cell 3; simp only [List.getElem?_cons_zero, List.getElem?_cons_succ] at c0 c1 c2 c3; have y0 := hL7.cell 0; have y1 := hL7.cell 1; simp only [List.getElem?_cons_zero, List.getElem?_cons_succ] at y0 y1)
    | (go_at_call 63; refine (HRW.out _ (hv.bel hW7)).mono ?_; rintro e w8 ⟨rfl, hb8⟩; have hW8 := tr hW7 hb8 hW7.size; have hX8 := hX7.bel hb8; have hL8 := hL7.bel hb8; have c0 := hX8.cell 0; have c1 := hX8.cell 1; have c2 := hX8.cell 2; have c3 := hX8.cell 3; simp only [List.getElem?_cons_zero, List.getElem?_cons_succ] at c0 c1 c2 c3; have y0 := hL8.cell 0; have y1 := hL8.cell 1; simp only [List.getElem?_cons_zero, List.getElem?_cons_succ] at y0 y1)
    | (go_at_call 64; refine (sameLine_c [] [] none none none none 0 0 0 0 0 0 _ rfl rfl (by omega) (by omega) (Rd.nil _ _) (Rd.nil _ _) (Rd.nil _ _) (Rd.nil _ _)).mono ?_; rintro e w9 ⟨rfl, hb9⟩; have hW9 := tr hW8 hb9 hW8.size)
    )
  go_ret
  exact ⟨rfl, hW9⟩

theorem lines_5 (gain limit : Int) (A G B : Option Addr) (cA c cB : Nat) (samples wave : List (Int × Int)) (gaps : List Int) (w : World) (hT : Tab w) (hs : Rd w A (gs samples)) (hr : Rd w G (ints gaps)) (hv : Rd w B (gs wave)) (hf : fewB samples.length gaps.length = true) (hl : wave.length ≤ 34) (h1 : (frameE gain limit samples gaps).2 = 0) (h2 : waveErr wave = 0) (h3 : samples.length < wave.length) :
    Calls Tryd.prog 10 #[.agg #[.int .i64 gain, .int .i64 limit, .slice A samples.length cA, .slice G gaps.length c], .slice B wave.length cB] w fun r w' => r = .returned (.bool true) ∧ Below w.heap.size w w' := by
  have hq : samples.length ≤ 70 ∧ gaps.length ≤ 70 := by simpa [fewB] using hf
  have HF := hide (fun W => fewFrame_c gain limit A G samples.length gaps.length cA c W)
  rw [hf] at HF
  have d34 : decide ((34 : Int) < (wave.length : Int)) = false := by simp; omega
  have HCP := hide (fun W h1 h2 => copyFrame_c gain limit A G cA c samples gaps W h1 h2 (by omega) (by omega))
  have HRC := hide (fun W h1 h2 => frameErr_c gain limit A G cA c samples gaps W h1 h2 (by omega) (by omega))
  have HRW := hide (fun W h1 => refWaveErr_c B cB wave W h1 (by omega))
  have e0 : compE gain limit samples gaps wave = 10 := by unfold compE firstE; rw [if_pos h1]; unfold firstE; rw [if_pos h2, decide_eq_true h3]; rfl
  have hE : compE gain limit samples gaps wave ≠ 0 := by rw [e0]; decide
  have HCE := hide (fun (A' : Option Addr) (a' : Nat) (G' : Option Addr) (d' : Nat) (B' : Option Addr) (b' : Nat) W h0 h1 h2 h3 => compressed_err gain limit A' G' B' a' d' b' samples wave gaps W h0 h1 h2 h3 (by omega) (by omega) (by omega) hE)
  have d1 : decide ((samples.length : Int) < (wave.length : Int)) = true := by simp; omega
  have d2 : decide (samples.length < wave.length) = true := by simp; omega
  rw [e0] at HCE
  rw [h1] at HRC
  rw [h2] at HRW
  clear hf hE e0 h1 h2 h3
  go_enter Tryd.func10, Tryd.ntmps10
  go_upto_region 6 with (first
    | (go_at_call 15; refine (awake_c _ (hT.bel (alloc_bel _ _))).mono ?_; rintro e w1 ⟨rfl, hb1⟩; have hW1 : Below w.heap.size w w1 := tr (alloc_bel _ _) hb1 (by simp); have hX1 := (Blk.new w 81 [.int .i64 gain, .int .i64 limit, .slice A samples.length cA, .slice G gaps.length c]).bel hb1; have c0 := hX1.cell 0; have c1 := hX1.cell 1; have c2 := hX1.cell 2; have c3 := hX1.cell 3; simp only [List.getElem?_cons_zero, List.getElem?_cons_succ] at c0 c1 c2 c3)
    | (go_at_call 54; refine (HF.out _).mono ?_; rintro e w2 ⟨rfl, hb2⟩; have hW2 := tr hW1 hb2 hW1.size; have hX2 := hX1.bel hb2; have c0 := hX2.cell 0; have c1 := hX2.cell 1; have c2 := hX2.cell 2; have c3 := hX2.cell 3; simp only [List.getElem?_cons_zero, List.getElem?_cons_succ] at c0 c1 c2 c3)
    | (go_at_call 56; refine (HCP.out _ (hs.bel hW2) (hr.bel hW2)).mono ?_; rintro e w3 ⟨⟨A3, a3, G3, d3, rfl, hs3, hr3⟩, hb3⟩; have hW3 := tr hW2 hb3 hW2.size; have hX3 := hX2.bel hb3; have c0 := hX3.cell 0; have c1 := hX3.cell 1; have c2 := hX3.cell 2; have c3 := hX3.cell 3; simp only [List.getElem?_cons_zero, List.getElem?_cons_succ] at c0 c1 c2 c3)
    | (go_at_call 61; refine (copyGausses_c wave B cB _ (hv.bel hW3) (by omega)).mono ?_; rintro e w4 ⟨⟨B4, b4, rfl, hv4⟩, hb4⟩; have hW4 := tr hW3 hb4 hW3.size; have hX4 := hX3.bel hb4; have c0 := hX4.cell 0; have c1 := hX4.cell 1; have c2 := hX4.cell 2; have c3 := hX4.cell 3; simp only [List.getElem?_cons_zero, List.getElem?_cons_succ] at c0 c1 c2 c3)
    | (go_at_call 60; refine (HCE.out A3 a3 G3 d3 B4 b4 _ (hT.bel hW4) (hs3.bel hb4).1 (hr3.bel hb4).1 hv4.1).mono ?_; rintro e w5 ⟨rfl, hb5⟩; have hW5 := tr hW4 hb5 hW4.size; have hX5 := hX4.bel hb5; have hL5 := Blk.new w5 89 [.slice none 0 0, .slice none 0 0]; have y0 := hL5.cell 0; have y1 := hL5.cell 1; simp only [List.getElem?_cons_zero, List.getElem?_cons_succ] at y0 y1; have f0 := hL5.frozen 0; have f1 := hL5.frozen 1)
    )
  obtain ⟨w6, hw6⟩ : ∃ w6, w5.alloc (.cells #[.slice none 0 0, .slice none 0 0] 89) = w6 := ⟨_, rfl⟩
  have hb6 : Below w5.heap.size w5 w6 := by rw [← hw6]; exact alloc_bel _ _
  have hL6 : Blk w6 w5.heap.size 89 [.slice none 0 0, .slice none 0 0] := by rw [← hw6]; exact hL5
  have hX6 := hX5.bel hb6
  have hW6 := tr hW5 hb6 hW5.size
  rw [hw6]
  clear hw6 y0 y1 f0 f1 hL5
  have c0 := hX6.cell 0; have c1 := hX6.cell 1; have c2 := hX6.cell 2; have c3 := hX6.cell 3; simp only [List.getElem?_cons_zero, List.getElem?_cons_succ] at c0 c1 c2 c3
  have y0 := hL6.cell 0; have y1 := hL6.cell 1; simp only [List.getElem?_cons_zero, List.getElem?_cons_succ] at y0 y1
  go_wp2_with (first
    | (go_at_call 62; refine (HRC.out _ (hs.bel hW6) (hr.bel hW6)).mono ?_; rintro e w7 ⟨rfl, hb7⟩; have hW7 := tr hW6 hb7 hW6.size; have hX7 := hX6.bel hb7; have hL7 := hL6.bel hb7; have c0 := hX7.cell 0; have c1 := hX7.cell 1; have c2 := hX7.cell 2; have c3 := hX7.cell 3; simp only [List.getElem?_cons_zero, List.getElem?_cons_succ] at c0 c1 c2 c3; have y0 := hL7.cell 0; have y1 := hL7.cell 1; simp only [List.getElem?_cons_zero, List.getElem?_cons_succ] at y0 y1)
    | (go_at_call 63; refine (HRW.out _ (hv.bel hW7)).mono ?_; rintro e w8 ⟨rfl, hb8⟩; have hW8 := tr hW7 hb8 hW7.size; have hX8 := hX7.bel hb8; have hL8 := hL7.bel hb8; have c0 := hX8.cell 0; have c1 := hX8.cell 1; have c2 := hX8.cell 2; have c3 := hX8.cell 3; simp only [List.getElem?_cons_zero, List.getElem?_cons_succ] at c0 c1 c2 c3; have y0 := hL8.cell 0; have y1 := hL8.cell 1; simp only [List.getElem?_cons_zero, List.getElem?_cons_succ] at y0 y1)
    | (go_at_call 64; refine (sameLine_c [] [] none none none none 0 0 0 0 0 0 _ rfl rfl (by omega) (by omega) (Rd.nil _ _) (Rd.nil _ _) (Rd.nil _ _) (Rd.nil _ _)).mono ?_; rintro e w9 ⟨rfl, hb9⟩; have hW9 := tr hW8 hb9 hW8.size)
    )
  go_ret
  exact ⟨rfl, hW9⟩

set_option maxHeartbeats 1000000 in
theorem lines_6 (gain limit : Int) (A G B : Option Addr) (cA c cB : Nat) (samples wave : List (Int × Int)) (gaps : List Int) (w : World) (hT : Tab w) (hs : Rd w A (gs samples)) (hr : Rd w G (ints gaps)) (hv : Rd w B (gs wave)) (hf : fewB samples.length gaps.length = true) (hE : compE gain limit samples gaps wave = 0) :
    Calls Tryd.prog 10 #[.agg #[.int .i64 gain, .int .i64 limit, .slice A samples.length cA, .slice G gaps.length c], .slice B wave.length cB] w fun r w' => r = .returned (.bool true) ∧ Below w.heap.size w w' := by
  obtain ⟨h1, h2, hle⟩ := compE_zero hE
  obtain ⟨hw1, hw2, hpow⟩ := waveErr_zero h2
  have hsm : ∀ g ∈ samples, gle 2000000 g := by
    obtain ⟨h0, hsamp, _⟩ := frameE_zero h1
    obtain ⟨_, _, l1, l2, _, _⟩ := headE_zero h0
    intro g hg
    have := hsamp g hg
    simp only [gle]
    omega
  have hq : samples.length ≤ 70 ∧ gaps.length ≤ 70 := by simpa [fewB] using hf
  have HF := hide (fun W => fewFrame_c gain limit A G samples.length gaps.length cA c W)
  rw [hf] at HF
  have d34 : decide ((34 : Int) < (wave.length : Int)) = false := by simp; omega
  have HCP := hide (fun W h1 h2 => copyFrame_c gain limit A G cA c samples gaps W h1 h2 (by omega) (by omega))
  have HRC := hide (fun W h1 h2 => frameErr_c gain limit A G cA c samples gaps W h1 h2 (by omega) (by omega))
  have HRW := hide (fun W h1 => refWaveErr_c B cB wave W h1 (by omega))
  have HCO := hide (fun (A' : Option Addr) (a' : Nat) (G' : Option Addr) (d' : Nat) (B' : Option Addr) (b' : Nat) W h0 h1 h2 h3 => compressed_ok gain limit A' G' B' a' d' b' samples wave gaps W h0 h1 h2 h3 (by omega) (by omega) (by omega) hE)
  have HRK := hide (fun W h1 h2 h3 => refCompressed_c gain limit A G B cA c cB samples wave gaps W h1 h2 h3 (by omega) (by omega) hsm (fun g hg => isPow_turn (hpow g hg)) hle (by omega))
  have d1 : decide ((samples.length : Int) < (wave.length : Int)) = false := by simp; omega
  have d2 : decide (samples.length < wave.length) = false := by simp; omega
  rw [h1] at HRC
  rw [h2] at HRW
  have hlV : (compV (usableL limit samples gaps) samples wave (samples.length - wave.length + 1)).length = samples.length - wave.length + 1 := by simp [compV]
  have hlM : (compMs (usableL limit samples gaps) wave (samples.length - wave.length + 1)).length = samples.length - wave.length + 1 := by simp [compMs]
  generalize compV (usableL limit samples gaps) samples wave (samples.length - wave.length + 1) = LV at HCO HRK hlV
  generalize compMs (usableL limit samples gaps) wave (samples.length - wave.length + 1) = LM at HCO HRK hlM
  have hN1 : samples.length - wave.length + 1 ≤ 1000 := by omega
  generalize samples.length - wave.length + 1 = N at HCO HRK hlV hlM hN1
  clear hf hE h1 h2 hsm hpow
  go_enter Tryd.func10, Tryd.ntmps10
  go_upto_region 6 with (first
    | (go_at_call 15; refine (awake_c _ (hT.bel (alloc_bel _ _))).mono ?_; rintro e w1 ⟨rfl, hb1⟩; have hW1 : Below w.heap.size w w1 := tr (alloc_bel _ _) hb1 (by simp); have hX1 := (Blk.new w 81 [.int .i64 gain, .int .i64 limit, .slice A samples.length cA, .slice G gaps.length c]).bel hb1; have c0 := hX1.cell 0; have c1 := hX1.cell 1; have c2 := hX1.cell 2; have c3 := hX1.cell 3; simp only [List.getElem?_cons_zero, List.getElem?_cons_succ] at c0 c1 c2 c3)
    | (go_at_call 54; refine (HF.out _).mono ?_; rintro e w2 ⟨rfl, hb2⟩; have hW2 := tr hW1 hb2 hW1.size; have hX2 := hX1.bel hb2; have c0 := hX2.cell 0; have c1 := hX2.cell 1; have c2 := hX2.cell 2; have c3 := hX2.cell 3; simp only [List.getElem?_cons_zero, List.getElem?_cons_succ] at c0 c1 c2 c3)
    | (go_at_call 56; refine (HCP.out _ (hs.bel hW2) (hr.bel hW2)).mono ?_; rintro e w3 ⟨⟨A3, a3, G3, d3, rfl, hs3, hr3⟩, hb3⟩; have hW3 := tr hW2 hb3 hW2.size; have hX3 := hX2.bel hb3; have c0 := hX3.cell 0; have c1 := hX3.cell 1; have c2 := hX3.cell 2; have c3 := hX3.cell 3; simp only [List.getElem?_cons_zero, List.getElem?_cons_succ] at c0 c1 c2 c3)
    | (go_at_call 61; refine (copyGausses_c wave B cB _ (hv.bel hW3) (by omega)).mono ?_; rintro e w4 ⟨⟨B4, b4, rfl, hv4⟩, hb4⟩; have hW4 := tr hW3 hb4 hW3.size; have hX4 := hX3.bel hb4; have c0 := hX4.cell 0; have c1 := hX4.cell 1; have c2 := hX4.cell 2; have c3 := hX4.cell 3; simp only [List.getElem?_cons_zero, List.getElem?_cons_succ] at c0 c1 c2 c3)
    | (go_at_call 60; refine (HCO.out A3 a3 G3 d3 B4 b4 _ (hT.bel hW4) (hs3.bel hb4).1 (hr3.bel hb4).1 hv4.1).mono ?_; rintro e w5 ⟨⟨V5, M5, rfl, hV5, hM5⟩, hb5⟩; have hW5 := tr hW4 hb5 hW4.size; have hX5 := hX4.bel hb5)
    )
  have hL5 := Blk.new w5 89 [.slice V5 N N, .slice M5 N N]
  obtain ⟨w6, hw6⟩ : ∃ w6, w5.alloc (.cells #[.slice V5 N N, .slice M5 N N] 89) = w6 := ⟨_, rfl⟩
  have hb6 : Below w5.heap.size w5 w6 := by rw [← hw6]; exact alloc_bel _ _
  have hL6 : Blk w6 w5.heap.size 89 [.slice V5 N N, .slice M5 N N] := by rw [← hw6]; exact hL5
  have hX6 := hX5.bel hb6
  have hW6 := tr hW5 hb6 hW5.size
  have hV6 := hV5.bel hb6
  have hM6 := hM5.bel hb6
  rw [hw6]
  clear hw6 hL5 hV5 hM5
  have c0 := hX6.cell 0; have c1 := hX6.cell 1; have c2 := hX6.cell 2; have c3 := hX6.cell 3; simp only [List.getElem?_cons_zero, List.getElem?_cons_succ] at c0 c1 c2 c3
  have y0 := hL6.cell 0; have y1 := hL6.cell 1; simp only [List.getElem?_cons_zero, List.getElem?_cons_succ] at y0 y1
  go_upto_region 13 with (first
    | (go_at_call 62; refine (HRC.out _ (hs.bel hW6) (hr.bel hW6)).mono ?_; rintro e w7 ⟨rfl, hb7⟩; have hW7 := tr hW6 hb7 hW6.size; have hX7 := hX6.bel hb7; have hL7 := hL6.bel hb7; have c0 := hX7.cell 0; have c1 := hX7.cell 1; have c2 := hX7.cell 2; have c3 := hX7.cell 3; simp only [List.getElem?_cons_zero, List.getElem?_cons_succ] at c0 c1 c2 c3; have y0 := hL7.cell 0; have y1 := hL7.cell 1; simp only [List.getElem?_cons_zero, List.getElem?_cons_succ] at y0 y1)
    | (go_at_call 63; refine (HRW.out _ (hv.bel hW7)).mono ?_; rintro e w8 ⟨rfl, hb8⟩; have hW8 := tr hW7 hb8 hW7.size; have hX8 := hX7.bel hb8; have hL8 := hL7.bel hb8; have c0 := hX8.cell 0; have c1 := hX8.cell 1; have c2 := hX8.cell 2; have c3 := hX8.cell 3; simp only [List.getElem?_cons_zero, List.getElem?_cons_succ] at c0 c1 c2 c3; have y0 := hL8.cell 0; have y1 := hL8.cell 1; simp only [List.getElem?_cons_zero, List.getElem?_cons_succ] at y0 y1)
    )
  have hV8 := ((hV6.bel hb7).bel hb8).drewN 1
  have hM8 := ((hM6.bel hb7).bel hb8).drewN 1
  have hs8 := (hs.bel hW8).drewN 1
  have hr8 := (hr.bel hW8).drewN 1
  have hv8 := (hv.bel hW8).drewN 1
  have HS := hide (show w8.cell? ⟨w.heap.size, 0, none⟩ = some (.int .i64 gain) ∧ w8.cell? ⟨w.heap.size, 1, none⟩ = some (.int .i64 limit) ∧ w8.cell? ⟨w.heap.size, 2, none⟩ = some (.slice A samples.length cA) ∧ w8.cell? ⟨w.heap.size, 3, none⟩ = some (.slice G gaps.length c) ∧ w8.cell? ⟨w5.heap.size, 0, none⟩ = some (.slice V5 N N) ∧ w8.cell? ⟨w5.heap.size, 1, none⟩ = some (.slice M5 N N) ∧ Below w.heap.size w w8 from ⟨c0, c1, c2, c3, y0, y1, hW8⟩)
  clear c0 c1 c2 c3 y0 y1 hT HF HCP HCO HRC HRW
  go_region_held3 (fun w' => w'.cell? ⟨w.heap.size, 0, none⟩ = some (.int .i64 gain) ∧ w'.cell? ⟨w.heap.size, 1, none⟩ = some (.int .i64 limit) ∧ w'.cell? ⟨w.heap.size, 2, none⟩ = some (.slice A samples.length cA) ∧ w'.cell? ⟨w.heap.size, 3, none⟩ = some (.slice G gaps.length c) ∧ w'.cell? ⟨w5.heap.size, 0, none⟩ = some (.slice V5 N N) ∧ w'.cell? ⟨w5.heap.size, 1, none⟩ = some (.slice M5 N N) ∧ Below w.heap.size w w')
    (first | with_reducible exact hd6_drew HS.out | with_reducible exact H9.out | with_reducible exact H10.out)
    (first
      | (go_at_call 64; have _g := H9; refine (sameLine_c LV LM V5 V9 M5 M9 N N V9c M9c N N _ hlV hlM hN1 hN1 (hV8.bel hb9) hV9.1 (hM8.bel hb9) hM9.1).mono ?_; rintro e w10 ⟨rfl, hb10⟩; have H10 := hide (hd6_bel H9.out hb10 H9.out.2.2.2.2.2.2.size))
      | (go_at_call 65; refine (HRK.out _ hs8 hr8 hv8).mono ?_; rintro e w9 ⟨⟨V9, M9, V9c, M9c, rfl, hV9, hM9⟩, hb9⟩; have H9 := hide (hd6_bel (hd6_drew HS.out) hb9 (by have := hW8.size; simpa using this))))
  have hbE := H10.out.2.2.2.2.2.2
  go_wp2
  go_ret
  exact ⟨rfl, hbE⟩

theorem lines_c (gain limit : Int) (A G B : Option Addr) (cA c cB : Nat) (samples wave : List (Int × Int)) (gaps : List Int) (w : World) (hT : Tab w) (hs : Rd w A (gs samples)) (hr : Rd w G (ints gaps)) (hv : Rd w B (gs wave)) :
    Calls Tryd.prog 10 #[.agg #[.int .i64 gain, .int .i64 limit, .slice A samples.length cA, .slice G gaps.length c], .slice B wave.length cB] w fun r w' => r = .returned (.bool true) ∧ Below w.heap.size w w' := by
  cases hf : fewB samples.length gaps.length
  · exact lines_1 gain limit A G B cA c cB samples wave gaps w hT hs hr hv hf
  · by_cases hl : wave.length ≤ 34
    · by_cases h1 : (frameE gain limit samples gaps).2 = 0
      · by_cases h2 : waveErr wave = 0
        · by_cases h3 : samples.length < wave.length
          · exact lines_5 gain limit A G B cA c cB samples wave gaps w hT hs hr hv hf hl h1 h2 h3
          · have hE : compE gain limit samples gaps wave = 0 := by
              unfold compE firstE; rw [if_pos h1]; unfold firstE; rw [if_pos h2, decide_eq_false h3]; rfl
            exact lines_6 gain limit A G B cA c cB samples wave gaps w hT hs hr hv hf hE
        · exact lines_4 gain limit A G B cA c cB samples wave gaps w hT hs hr hv hf hl h1 h2
      · exact lines_3 gain limit A G B cA c cB samples wave gaps w hT hs hr hv hf hl h1
    · exact lines_2 gain limit A G B cA c cB samples wave gaps w hT hs hr hv hf (by omega)
end Go.Proofs.YthkmeaibppkhmaaDoor
