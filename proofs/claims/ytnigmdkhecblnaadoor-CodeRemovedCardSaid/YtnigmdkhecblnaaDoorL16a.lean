/- The law CodeRemoved: the ways that end early. Condition: the laid table. -/
import Derived.Test.YtnigmdkhecblnaaDoorL15
import Derived.Test.YtnigmdkhecblnaaDoorQ9
import Derived.Test.YtnigmdkhecblnaaDoorEq4
set_option linter.unusedSimpArgs false
set_option linter.unusedVariables false
namespace Go.Proofs.YtnigmdkhecblnaaDoor
open Go.RowKit
set_option maxRecDepth 100000


theorem removed_1 (ga li : Int) (A G : Option Addr) (cA c : Nat) (s : List (Int × Int)) (gp : List Int) (ga2 li2 : Int) (A2 G2 : Option Addr) (cA2 c2 : Nat) (s2 : List (Int × Int)) (gp2 : List Int) (B : Option Addr) (cB : Nat) (lines : List Int) (w : World) (hT : Tab w) (hs : Rd w A (gs s)) (hr : Rd w G (ints gp)) (hs2 : Rd w A2 (gs s2)) (hr2 : Rd w G2 (ints gp2)) (hx : Rd w B (ints lines)) (hf : fewB s.length gp.length = false) :
    Calls Tryd.prog 4 #[.agg #[.int .i64 ga, .int .i64 li, .slice A s.length cA, .slice G gp.length c], .agg #[.int .i64 ga2, .int .i64 li2, .slice A2 s2.length cA2, .slice G2 gp2.length c2], .slice B lines.length cB] w fun r w' => r = .returned (.bool true) ∧ Below w.heap.size w w' := by
  have hXX := (Blk.new w 25 [.int .i64 ga, .int .i64 li, .slice A s.length cA, .slice G gp.length c]).bel (alloc_bel _ (.cells #[.int .i64 ga2, .int .i64 li2, .slice A2 s2.length cA2, .slice G2 gp2.length c2] 25))
  have hZZ := Blk.two w 25 25 [.int .i64 ga, .int .i64 li, .slice A s.length cA, .slice G gp.length c] [.int .i64 ga2, .int .i64 li2, .slice A2 s2.length cA2, .slice G2 gp2.length c2]
  have hAA : Below w.heap.size w ((w.alloc (.cells #[.int .i64 ga, .int .i64 li, .slice A s.length cA, .slice G gp.length c] 25)).alloc (.cells #[.int .i64 ga2, .int .i64 li2, .slice A2 s2.length cA2, .slice G2 gp2.length c2] 25)) := (alloc_bel _ _).alloc (by simp) _
  have HF := hide (fun W => fewFrame_c ga li A G s.length gp.length cA c W)
  have HF2 := hide (fun W => fewFrame_c ga2 li2 A2 G2 s2.length gp2.length cA2 c2 W)
  rw [hf] at HF
  have _u := And.intro hs (And.intro hr (And.intro hs2 (And.intro hr2 hx)))
  clear hf hs hr hs2 hr2 hx _u HF2
  go_enter Tryd.func4, Tryd.ntmps4
  go_wp2_with (first
    | (go_at_call 12; have _g := hW5; refine (HLE.out _ (hx.bel hW5)).mono ?_; rintro e w6 ⟨rfl, hb6⟩; have hW6 := tr hW5 hb6 hW5.size; have hX6 := hX5.bel hb6; have hZ6 := hZ5.bel hb6)
    | (go_at_call 11; have _g := hW4; refine (HFE2.out _ (hs2.bel hW4) (hr2.bel hW4)).mono ?_; rintro e w5 ⟨rfl, hb5⟩; have hW5 := tr hW4 hb5 hW4.size; have hX5 := hX4.bel hb5; have hZ5 := hZ4.bel hb5; have c0 := hX5.cell 0; have c1 := hX5.cell 1; have c2 := hX5.cell 2; have c3 := hX5.cell 3; simp only [List.getElem?_cons_zero, List.getElem?_cons_succ] at c0 c1 c2 c3; have z0 := hZ5.cell 0; have z1 := hZ5.cell 1; have z2 := hZ5.cell 2; have z3 := hZ5.cell 3; simp only [List.getElem?_cons_zero, List.getElem?_cons_succ] at z0 z1 z2 z3)
    | (go_at_call 11; have _g := hW3; refine (HFE.out _ (hs.bel hW3) (hr.bel hW3)).mono ?_; rintro e w4 ⟨rfl, hb4⟩; have hW4 := tr hW3 hb4 hW3.size; have hX4 := hX3.bel hb4; have hZ4 := hZ3.bel hb4; have c0 := hX4.cell 0; have c1 := hX4.cell 1; have c2 := hX4.cell 2; have c3 := hX4.cell 3; simp only [List.getElem?_cons_zero, List.getElem?_cons_succ] at c0 c1 c2 c3; have z0 := hZ4.cell 0; have z1 := hZ4.cell 1; have z2 := hZ4.cell 2; have z3 := hZ4.cell 3; simp only [List.getElem?_cons_zero, List.getElem?_cons_succ] at z0 z1 z2 z3)
    | (go_at_call 7; have _g := hW2; refine (HF2.out _).mono ?_; rintro e w3 ⟨rfl, hb3⟩; have hW3 := tr hW2 hb3 hW2.size; have hX3 := hX2.bel hb3; have hZ3 := hZ2.bel hb3; have c0 := hX3.cell 0; have c1 := hX3.cell 1; have c2 := hX3.cell 2; have c3 := hX3.cell 3; simp only [List.getElem?_cons_zero, List.getElem?_cons_succ] at c0 c1 c2 c3; have z0 := hZ3.cell 0; have z1 := hZ3.cell 1; have z2 := hZ3.cell 2; have z3 := hZ3.cell 3; simp only [List.getElem?_cons_zero, List.getElem?_cons_succ] at z0 z1 z2 z3)
    | (go_at_call 7; have _g := hW1; refine (HF.out _).mono ?_; rintro e w2 ⟨rfl, hb2⟩; have hW2 := tr hW1 hb2 hW1.size; have hX2 := hX1.bel hb2; have hZ2 := hZ1.bel hb2; have c0 := hX2.cell 0; have c1 := hX2.cell 1; have c2 := hX2.cell 2; have c3 := hX2.cell 3; simp only [List.getElem?_cons_zero, List.getElem?_cons_succ] at c0 c1 c2 c3; have z0 := hZ2.cell 0; have z1 := hZ2.cell 1; have z2 := hZ2.cell 2; have z3 := hZ2.cell 3; simp only [List.getElem?_cons_zero, List.getElem?_cons_succ] at z0 z1 z2 z3)
    | (go_at_call 6; refine (awake_c _ (hT.bel hAA)).mono ?_; rintro e w1 ⟨rfl, hb1⟩; have hW1 := tr hAA hb1 (by simp; omega); have hX1 := hXX.bel hb1; have hZ1 := hZZ.bel hb1; have c0 := hX1.cell 0; have c1 := hX1.cell 1; have c2 := hX1.cell 2; have c3 := hX1.cell 3; simp only [List.getElem?_cons_zero, List.getElem?_cons_succ] at c0 c1 c2 c3; have z0 := hZ1.cell 0; have z1 := hZ1.cell 1; have z2 := hZ1.cell 2; have z3 := hZ1.cell 3; simp only [List.getElem?_cons_zero, List.getElem?_cons_succ] at z0 z1 z2 z3)
    )
  go_ret
  exact ⟨rfl, hW2⟩

theorem removed_2 (ga li : Int) (A G : Option Addr) (cA c : Nat) (s : List (Int × Int)) (gp : List Int) (ga2 li2 : Int) (A2 G2 : Option Addr) (cA2 c2 : Nat) (s2 : List (Int × Int)) (gp2 : List Int) (B : Option Addr) (cB : Nat) (lines : List Int) (w : World) (hT : Tab w) (hs : Rd w A (gs s)) (hr : Rd w G (ints gp)) (hs2 : Rd w A2 (gs s2)) (hr2 : Rd w G2 (ints gp2)) (hx : Rd w B (ints lines)) (hf : fewB s.length gp.length = true) (hf2 : fewB s2.length gp2.length = false) :
    Calls Tryd.prog 4 #[.agg #[.int .i64 ga, .int .i64 li, .slice A s.length cA, .slice G gp.length c], .agg #[.int .i64 ga2, .int .i64 li2, .slice A2 s2.length cA2, .slice G2 gp2.length c2], .slice B lines.length cB] w fun r w' => r = .returned (.bool true) ∧ Below w.heap.size w w' := by
  have hXX := (Blk.new w 25 [.int .i64 ga, .int .i64 li, .slice A s.length cA, .slice G gp.length c]).bel (alloc_bel _ (.cells #[.int .i64 ga2, .int .i64 li2, .slice A2 s2.length cA2, .slice G2 gp2.length c2] 25))
  have hZZ := Blk.two w 25 25 [.int .i64 ga, .int .i64 li, .slice A s.length cA, .slice G gp.length c] [.int .i64 ga2, .int .i64 li2, .slice A2 s2.length cA2, .slice G2 gp2.length c2]
  have hAA : Below w.heap.size w ((w.alloc (.cells #[.int .i64 ga, .int .i64 li, .slice A s.length cA, .slice G gp.length c] 25)).alloc (.cells #[.int .i64 ga2, .int .i64 li2, .slice A2 s2.length cA2, .slice G2 gp2.length c2] 25)) := (alloc_bel _ _).alloc (by simp) _
  have HF := hide (fun W => fewFrame_c ga li A G s.length gp.length cA c W)
  have HF2 := hide (fun W => fewFrame_c ga2 li2 A2 G2 s2.length gp2.length cA2 c2 W)
  rw [hf] at HF
  rw [hf2] at HF2
  have _u := And.intro hs (And.intro hr (And.intro hs2 (And.intro hr2 hx)))
  clear hf hf2 hs hr hs2 hr2 hx _u
  go_enter Tryd.func4, Tryd.ntmps4
  go_wp2_with (first
    | (go_at_call 12; have _g := hW5; refine (HLE.out _ (hx.bel hW5)).mono ?_; rintro e w6 ⟨rfl, hb6⟩; have hW6 := tr hW5 hb6 hW5.size; have hX6 := hX5.bel hb6; have hZ6 := hZ5.bel hb6)
    | (go_at_call 11; have _g := hW4; refine (HFE2.out _ (hs2.bel hW4) (hr2.bel hW4)).mono ?_; rintro e w5 ⟨rfl, hb5⟩; have hW5 := tr hW4 hb5 hW4.size; have hX5 := hX4.bel hb5; have hZ5 := hZ4.bel hb5; have c0 := hX5.cell 0; have c1 := hX5.cell 1; have c2 := hX5.cell 2; have c3 := hX5.cell 3; simp only [List.getElem?_cons_zero, List.getElem?_cons_succ] at c0 c1 c2 c3; have z0 := hZ5.cell 0; have z1 := hZ5.cell 1; have z2 := hZ5.cell 2; have z3 := hZ5.cell 3; simp only [List.getElem?_cons_zero, List.getElem?_cons_succ] at z0 z1 z2 z3)
    | (go_at_call 11; have _g := hW3; refine (HFE.out _ (hs.bel hW3) (hr.bel hW3)).mono ?_; rintro e w4 ⟨rfl, hb4⟩; have hW4 := tr hW3 hb4 hW3.size; have hX4 := hX3.bel hb4; have hZ4 := hZ3.bel hb4; have c0 := hX4.cell 0; have c1 := hX4.cell 1; have c2 := hX4.cell 2; have c3 := hX4.cell 3; simp only [List.getElem?_cons_zero, List.getElem?_cons_succ] at c0 c1 c2 c3; have z0 := hZ4.cell 0; have z1 := hZ4.cell 1; have z2 := hZ4.cell 2; have z3 := hZ4.cell 3; simp only [List.getElem?_cons_zero, List.getElem?_cons_succ] at z0 z1 z2 z3)
    | (go_at_call 7; have _g := hW2; refine (HF2.out _).mono ?_; rintro e w3 ⟨rfl, hb3⟩; have hW3 := tr hW2 hb3 hW2.size; have hX3 := hX2.bel hb3; have hZ3 := hZ2.bel hb3; have c0 := hX3.cell 0; have c1 := hX3.cell 1; have c2 := hX3.cell 2; have c3 := hX3.cell 3; simp only [List.getElem?_cons_zero, List.getElem?_cons_succ] at c0 c1 c2 c3; have z0 := hZ3.cell 0; have z1 := hZ3.cell 1; have z2 := hZ3.cell 2; have z3 := hZ3.cell 3; simp only [List.getElem?_cons_zero, List.getElem?_cons_succ] at z0 z1 z2 z3)
    | (go_at_call 7; have _g := hW1; refine (HF.out _).mono ?_; rintro e w2 ⟨rfl, hb2⟩; have hW2 := tr hW1 hb2 hW1.size; have hX2 := hX1.bel hb2; have hZ2 := hZ1.bel hb2; have c0 := hX2.cell 0; have c1 := hX2.cell 1; have c2 := hX2.cell 2; have c3 := hX2.cell 3; simp only [List.getElem?_cons_zero, List.getElem?_cons_succ] at c0 c1 c2 c3; have z0 := hZ2.cell 0; have z1 := hZ2.cell 1; have z2 := hZ2.cell 2; have z3 := hZ2.cell 3; simp only [List.getElem?_cons_zero, List.getElem?_cons_succ] at z0 z1 z2 z3)
    | (go_at_call 6; refine (awake_c _ (hT.bel hAA)).mono ?_; rintro e w1 ⟨rfl, hb1⟩; have hW1 := tr hAA hb1 (by simp; omega); have hX1 := hXX.bel hb1; have hZ1 := hZZ.bel hb1; have c0 := hX1.cell 0; have c1 := hX1.cell 1; have c2 := hX1.cell 2; have c3 := hX1.cell 3; simp only [List.getElem?_cons_zero, List.getElem?_cons_succ] at c0 c1 c2 c3; have z0 := hZ1.cell 0; have z1 := hZ1.cell 1; have z2 := hZ1.cell 2; have z3 := hZ1.cell 3; simp only [List.getElem?_cons_zero, List.getElem?_cons_succ] at z0 z1 z2 z3)
    )
  go_ret
  exact ⟨rfl, hW3⟩

theorem removed_3 (ga li : Int) (A G : Option Addr) (cA c : Nat) (s : List (Int × Int)) (gp : List Int) (ga2 li2 : Int) (A2 G2 : Option Addr) (cA2 c2 : Nat) (s2 : List (Int × Int)) (gp2 : List Int) (B : Option Addr) (cB : Nat) (lines : List Int) (w : World) (hT : Tab w) (hs : Rd w A (gs s)) (hr : Rd w G (ints gp)) (hs2 : Rd w A2 (gs s2)) (hr2 : Rd w G2 (ints gp2)) (hx : Rd w B (ints lines)) (hf : fewB s.length gp.length = true) (hf2 : fewB s2.length gp2.length = true) (he : (frameE ga li s gp).2 ≠ 0) :
    Calls Tryd.prog 4 #[.agg #[.int .i64 ga, .int .i64 li, .slice A s.length cA, .slice G gp.length c], .agg #[.int .i64 ga2, .int .i64 li2, .slice A2 s2.length cA2, .slice G2 gp2.length c2], .slice B lines.length cB] w fun r w' => r = .returned (.bool true) ∧ Below w.heap.size w w' := by
  have hXX := (Blk.new w 25 [.int .i64 ga, .int .i64 li, .slice A s.length cA, .slice G gp.length c]).bel (alloc_bel _ (.cells #[.int .i64 ga2, .int .i64 li2, .slice A2 s2.length cA2, .slice G2 gp2.length c2] 25))
  have hZZ := Blk.two w 25 25 [.int .i64 ga, .int .i64 li, .slice A s.length cA, .slice G gp.length c] [.int .i64 ga2, .int .i64 li2, .slice A2 s2.length cA2, .slice G2 gp2.length c2]
  have hAA : Below w.heap.size w ((w.alloc (.cells #[.int .i64 ga, .int .i64 li, .slice A s.length cA, .slice G gp.length c] 25)).alloc (.cells #[.int .i64 ga2, .int .i64 li2, .slice A2 s2.length cA2, .slice G2 gp2.length c2] 25)) := (alloc_bel _ _).alloc (by simp) _
  have HF := hide (fun W => fewFrame_c ga li A G s.length gp.length cA c W)
  have HF2 := hide (fun W => fewFrame_c ga2 li2 A2 G2 s2.length gp2.length cA2 c2 W)
  rw [hf] at HF
  rw [hf2] at HF2
  have hq : s.length ≤ 70 ∧ gp.length ≤ 70 := by simpa [fewB] using hf
  have hq2 : s2.length ≤ 70 ∧ gp2.length ≤ 70 := by simpa [fewB] using hf2
  have HFE : Hid (∀ W, Rd W A (gs s) → Rd W G (ints gp) → Calls Tryd.prog 11 #[.agg #[.int .i64 ga, .int .i64 li, .slice A s.length cA, .slice G gp.length c]] W fun r w' => r = .returned (.int .i64 (frameE ga li s gp).2) ∧ Below W.heap.size W w') :=
    fun W h1 h2 => frErr_c ⟨ga, li, A, cA, s, G, c, gp⟩ W ⟨h1, h2, by show s.length ≤ _; omega, by show gp.length ≤ _; omega⟩
  have HFE2 : Hid (∀ W, Rd W A2 (gs s2) → Rd W G2 (ints gp2) → Calls Tryd.prog 11 #[.agg #[.int .i64 ga2, .int .i64 li2, .slice A2 s2.length cA2, .slice G2 gp2.length c2]] W fun r w' => r = .returned (.int .i64 (frameE ga2 li2 s2 gp2).2) ∧ Below W.heap.size W w') :=
    fun W h1 h2 => frErr_c ⟨ga2, li2, A2, cA2, s2, G2, c2, gp2⟩ W ⟨h1, h2, by show s2.length ≤ _; omega, by show gp2.length ≤ _; omega⟩
  have e1 : ((frameE ga li s gp).2 != 0) = true := by simpa using he
  clear hf hf2 hq hq2 he HFE2
  generalize (frameE ga li s gp).2 = E at HFE e1
  go_enter Tryd.func4, Tryd.ntmps4
  go_wp2_with (first
    | (go_at_call 12; have _g := hW5; refine (HLE.out _ (hx.bel hW5)).mono ?_; rintro e w6 ⟨rfl, hb6⟩; have hW6 := tr hW5 hb6 hW5.size; have hX6 := hX5.bel hb6; have hZ6 := hZ5.bel hb6)
    | (go_at_call 11; have _g := hW4; refine (HFE2.out _ (hs2.bel hW4) (hr2.bel hW4)).mono ?_; rintro e w5 ⟨rfl, hb5⟩; have hW5 := tr hW4 hb5 hW4.size; have hX5 := hX4.bel hb5; have hZ5 := hZ4.bel hb5; have c0 := hX5.cell 0; have c1 := hX5.cell 1; have c2 := hX5.cell 2; have c3 := hX5.cell 3; simp only [List.getElem?_cons_zero, List.getElem?_cons_succ] at c0 c1 c2 c3; have z0 := hZ5.cell 0; have z1 := hZ5.cell 1; have z2 := hZ5.cell 2; have z3 := hZ5.cell 3; simp only [List.getElem?_cons_zero, List.getElem?_cons_succ] at z0 z1 z2 z3)
    | (go_at_call 11; have _g := hW3; refine (HFE.out _ (hs.bel hW3) (hr.bel hW3)).mono ?_; rintro e w4 ⟨rfl, hb4⟩; have hW4 := tr hW3 hb4 hW3.size; have hX4 := hX3.bel hb4; have hZ4 := hZ3.bel hb4; have c0 := hX4.cell 0; have c1 := hX4.cell 1; have c2 := hX4.cell 2; have c3 := hX4.cell 3; simp only [List.getElem?_cons_zero, List.getElem?_cons_succ] at c0 c1 c2 c3; have z0 := hZ4.cell 0; have z1 := hZ4.cell 1; have z2 := hZ4.cell 2; have z3 := hZ4.cell 3; simp only [List.getElem?_cons_zero, List.getElem?_cons_succ] at z0 z1 z2 z3)
    | (go_at_call 7; have _g := hW2; refine (HF2.out _).mono ?_; rintro e w3 ⟨rfl, hb3⟩; have hW3 := tr hW2 hb3 hW2.size; have hX3 := hX2.bel hb3; have hZ3 := hZ2.bel hb3; have c0 := hX3.cell 0; have c1 := hX3.cell 1; have c2 := hX3.cell 2; have c3 := hX3.cell 3; simp only [List.getElem?_cons_zero, List.getElem?_cons_succ] at c0 c1 c2 c3; have z0 := hZ3.cell 0; have z1 := hZ3.cell 1; have z2 := hZ3.cell 2; have z3 := hZ3.cell 3; simp only [List.getElem?_cons_zero, List.getElem?_cons_succ] at z0 z1 z2 z3)
    | (go_at_call 7; have _g := hW1; refine (HF.out _).mono ?_; rintro e w2 ⟨rfl, hb2⟩; have hW2 := tr hW1 hb2 hW1.size; have hX2 := hX1.bel hb2; have hZ2 := hZ1.bel hb2; have c0 := hX2.cell 0; have c1 := hX2.cell 1; have c2 := hX2.cell 2; have c3 := hX2.cell 3; simp only [List.getElem?_cons_zero, List.getElem?_cons_succ] at c0 c1 c2 c3; have z0 := hZ2.cell 0; have z1 := hZ2.cell 1; have z2 := hZ2.cell 2; have z3 := hZ2.cell 3; simp only [List.getElem?_cons_zero, List.getElem?_cons_succ] at z0 z1 z2 z3)
    | (go_at_call 6; refine (awake_c _ (hT.bel hAA)).mono ?_; rintro e w1 ⟨rfl, hb1⟩; have hW1 := tr hAA hb1 (by simp; omega); have hX1 := hXX.bel hb1; have hZ1 := hZZ.bel hb1; have c0 := hX1.cell 0; have c1 := hX1.cell 1; have c2 := hX1.cell 2; have c3 := hX1.cell 3; simp only [List.getElem?_cons_zero, List.getElem?_cons_succ] at c0 c1 c2 c3; have z0 := hZ1.cell 0; have z1 := hZ1.cell 1; have z2 := hZ1.cell 2; have z3 := hZ1.cell 3; simp only [List.getElem?_cons_zero, List.getElem?_cons_succ] at z0 z1 z2 z3)
    )
  go_ret
  exact ⟨rfl, hW4⟩

theorem removed_4 (ga li : Int) (A G : Option Addr) (cA c : Nat) (s : List (Int × Int)) (gp : List Int) (ga2 li2 : Int) (A2 G2 : Option Addr) (cA2 c2 : Nat) (s2 : List (Int × Int)) (gp2 : List Int) (B : Option Addr) (cB : Nat) (lines : List Int) (w : World) (hT : Tab w) (hs : Rd w A (gs s)) (hr : Rd w G (ints gp)) (hs2 : Rd w A2 (gs s2)) (hr2 : Rd w G2 (ints gp2)) (hx : Rd w B (ints lines)) (hf : fewB s.length gp.length = true) (hf2 : fewB s2.length gp2.length = true) (hv : (frameE ga li s gp).2 = 0) (he : (frameE ga2 li2 s2 gp2).2 ≠ 0) :
    Calls Tryd.prog 4 #[.agg #[.int .i64 ga, .int .i64 li, .slice A s.length cA, .slice G gp.length c], .agg #[.int .i64 ga2, .int .i64 li2, .slice A2 s2.length cA2, .slice G2 gp2.length c2], .slice B lines.length cB] w fun r w' => r = .returned (.bool true) ∧ Below w.heap.size w w' := by
  have hXX := (Blk.new w 25 [.int .i64 ga, .int .i64 li, .slice A s.length cA, .slice G gp.length c]).bel (alloc_bel _ (.cells #[.int .i64 ga2, .int .i64 li2, .slice A2 s2.length cA2, .slice G2 gp2.length c2] 25))
  have hZZ := Blk.two w 25 25 [.int .i64 ga, .int .i64 li, .slice A s.length cA, .slice G gp.length c] [.int .i64 ga2, .int .i64 li2, .slice A2 s2.length cA2, .slice G2 gp2.length c2]
  have hAA : Below w.heap.size w ((w.alloc (.cells #[.int .i64 ga, .int .i64 li, .slice A s.length cA, .slice G gp.length c] 25)).alloc (.cells #[.int .i64 ga2, .int .i64 li2, .slice A2 s2.length cA2, .slice G2 gp2.length c2] 25)) := (alloc_bel _ _).alloc (by simp) _
  have HF := hide (fun W => fewFrame_c ga li A G s.length gp.length cA c W)
  have HF2 := hide (fun W => fewFrame_c ga2 li2 A2 G2 s2.length gp2.length cA2 c2 W)
  rw [hf] at HF
  rw [hf2] at HF2
  have hq : s.length ≤ 70 ∧ gp.length ≤ 70 := by simpa [fewB] using hf
  have hq2 : s2.length ≤ 70 ∧ gp2.length ≤ 70 := by simpa [fewB] using hf2
  have HFE : Hid (∀ W, Rd W A (gs s) → Rd W G (ints gp) → Calls Tryd.prog 11 #[.agg #[.int .i64 ga, .int .i64 li, .slice A s.length cA, .slice G gp.length c]] W fun r w' => r = .returned (.int .i64 (frameE ga li s gp).2) ∧ Below W.heap.size W w') :=
    fun W h1 h2 => frErr_c ⟨ga, li, A, cA, s, G, c, gp⟩ W ⟨h1, h2, by show s.length ≤ _; omega, by show gp.length ≤ _; omega⟩
  have HFE2 : Hid (∀ W, Rd W A2 (gs s2) → Rd W G2 (ints gp2) → Calls Tryd.prog 11 #[.agg #[.int .i64 ga2, .int .i64 li2, .slice A2 s2.length cA2, .slice G2 gp2.length c2]] W fun r w' => r = .returned (.int .i64 (frameE ga2 li2 s2 gp2).2) ∧ Below W.heap.size W w') :=
    fun W h1 h2 => frErr_c ⟨ga2, li2, A2, cA2, s2, G2, c2, gp2⟩ W ⟨h1, h2, by show s2.length ≤ _; omega, by show gp2.length ≤ _; omega⟩
  have e1 : ((frameE ga2 li2 s2 gp2).2 != 0) = true := by simpa using he
  rw [hv] at HFE
  clear hf hf2 hq hq2 he hv
  generalize (frameE ga2 li2 s2 gp2).2 = E at HFE2 e1
  go_enter Tryd.func4, Tryd.ntmps4
  go_wp2_with (first
    | (go_at_call 12; have _g := hW5; refine (HLE.out _ (hx.bel hW5)).mono ?_; rintro e w6 ⟨rfl, hb6⟩; have hW6 := tr hW5 hb6 hW5.size; have hX6 := hX5.bel hb6; have hZ6 := hZ5.bel hb6)
    | (go_at_call 11; have _g := hW4; refine (HFE2.out _ (hs2.bel hW4) (hr2.bel hW4)).mono ?_; rintro e w5 ⟨rfl, hb5⟩; have hW5 := tr hW4 hb5 hW4.size; have hX5 := hX4.bel hb5; have hZ5 := hZ4.bel hb5; have c0 := hX5.cell 0; have c1 := hX5.cell 1; have c2 := hX5.cell 2; have c3 := hX5.cell 3; simp only [List.getElem?_cons_zero, List.getElem?_cons_succ] at c0 c1 c2 c3; have z0 := hZ5.cell 0; have z1 := hZ5.cell 1; have z2 := hZ5.cell 2; have z3 := hZ5.cell 3; simp only [List.getElem?_cons_zero, List.getElem?_cons_succ] at z0 z1 z2 z3)
    | (go_at_call 11; have _g := hW3; refine (HFE.out _ (hs.bel hW3) (hr.bel hW3)).mono ?_; rintro e w4 ⟨rfl, hb4⟩; have hW4 := tr hW3 hb4 hW3.size; have hX4 := hX3.bel hb4; have hZ4 := hZ3.bel hb4; have c0 := hX4.cell 0; have c1 := hX4.cell 1; have c2 := hX4.cell 2; have c3 := hX4.cell 3; simp only [List.getElem?_cons_zero, List.getElem?_cons_succ] at c0 c1 c2 c3; have z0 := hZ4.cell 0; have z1 := hZ4.cell 1; have z2 := hZ4.cell 2; have z3 := hZ4.cell 3; simp only [List.getElem?_cons_zero, List.getElem?_cons_succ] at z0 z1 z2 z3)
    | (go_at_call 7; have _g := hW2; refine (HF2.out _).mono ?_; rintro e w3 ⟨rfl, hb3⟩; have hW3 := tr hW2 hb3 hW2.size; have hX3 := hX2.bel hb3; have hZ3 := hZ2.bel hb3; have c0 := hX3.cell 0; have c1 := hX3.cell 1; have c2 := hX3.cell 2; have c3 := hX3.cell 3; simp only [List.getElem?_cons_zero, List.getElem?_cons_succ] at c0 c1 c2 c3; have z0 := hZ3.cell 0; have z1 := hZ3.cell 1; have z2 := hZ3.cell 2; have z3 := hZ3.cell 3; simp only [List.getElem?_cons_zero, List.getElem?_cons_succ] at z0 z1 z2 z3)
    | (go_at_call 7; have _g := hW1; refine (HF.out _).mono ?_; rintro e w2 ⟨rfl, hb2⟩; have hW2 := tr hW1 hb2 hW1.size; have hX2 := hX1.bel hb2; have hZ2 := hZ1.bel hb2; have c0 := hX2.cell 0; have c1 := hX2.cell 1; have c2 := hX2.cell 2; have c3 := hX2.cell 3; simp only [List.getElem?_cons_zero, List.getElem?_cons_succ] at c0 c1 c2 c3; have z0 := hZ2.cell 0; have z1 := hZ2.cell 1; have z2 := hZ2.cell 2; have z3 := hZ2.cell 3; simp only [List.getElem?_cons_zero, List.getElem?_cons_succ] at z0 z1 z2 z3)
    | (go_at_call 6; refine (awake_c _ (hT.bel hAA)).mono ?_; rintro e w1 ⟨rfl, hb1⟩; have hW1 := tr hAA hb1 (by simp; omega); have hX1 := hXX.bel hb1; have hZ1 := hZZ.bel hb1; have c0 := hX1.cell 0; have c1 := hX1.cell 1; have c2 := hX1.cell 2; have c3 := hX1.cell 3; simp only [List.getElem?_cons_zero, List.getElem?_cons_succ] at c0 c1 c2 c3; have z0 := hZ1.cell 0; have z1 := hZ1.cell 1; have z2 := hZ1.cell 2; have z3 := hZ1.cell 3; simp only [List.getElem?_cons_zero, List.getElem?_cons_succ] at z0 z1 z2 z3)
    )
  go_ret
  exact ⟨rfl, hW5⟩

theorem removed_5 (ga li : Int) (A G : Option Addr) (cA c : Nat) (s : List (Int × Int)) (gp : List Int) (ga2 li2 : Int) (A2 G2 : Option Addr) (cA2 c2 : Nat) (s2 : List (Int × Int)) (gp2 : List Int) (B : Option Addr) (cB : Nat) (lines : List Int) (w : World) (hT : Tab w) (hs : Rd w A (gs s)) (hr : Rd w G (ints gp)) (hs2 : Rd w A2 (gs s2)) (hr2 : Rd w G2 (ints gp2)) (hx : Rd w B (ints lines)) (hf : fewB s.length gp.length = true) (hf2 : fewB s2.length gp2.length = true) (hv : (frameE ga li s gp).2 = 0) (hv2 : (frameE ga2 li2 s2 gp2).2 = 0) (h4 : 4 < lines.length) :
    Calls Tryd.prog 4 #[.agg #[.int .i64 ga, .int .i64 li, .slice A s.length cA, .slice G gp.length c], .agg #[.int .i64 ga2, .int .i64 li2, .slice A2 s2.length cA2, .slice G2 gp2.length c2], .slice B lines.length cB] w fun r w' => r = .returned (.bool true) ∧ Below w.heap.size w w' := by
  have hXX := (Blk.new w 25 [.int .i64 ga, .int .i64 li, .slice A s.length cA, .slice G gp.length c]).bel (alloc_bel _ (.cells #[.int .i64 ga2, .int .i64 li2, .slice A2 s2.length cA2, .slice G2 gp2.length c2] 25))
  have hZZ := Blk.two w 25 25 [.int .i64 ga, .int .i64 li, .slice A s.length cA, .slice G gp.length c] [.int .i64 ga2, .int .i64 li2, .slice A2 s2.length cA2, .slice G2 gp2.length c2]
  have hAA : Below w.heap.size w ((w.alloc (.cells #[.int .i64 ga, .int .i64 li, .slice A s.length cA, .slice G gp.length c] 25)).alloc (.cells #[.int .i64 ga2, .int .i64 li2, .slice A2 s2.length cA2, .slice G2 gp2.length c2] 25)) := (alloc_bel _ _).alloc (by simp) _
  have HF := hide (fun W => fewFrame_c ga li A G s.length gp.length cA c W)
  have HF2 := hide (fun W => fewFrame_c ga2 li2 A2 G2 s2.length gp2.length cA2 c2 W)
  rw [hf] at HF
  rw [hf2] at HF2
  have hq : s.length ≤ 70 ∧ gp.length ≤ 70 := by simpa [fewB] using hf
  have hq2 : s2.length ≤ 70 ∧ gp2.length ≤ 70 := by simpa [fewB] using hf2
  have HFE : Hid (∀ W, Rd W A (gs s) → Rd W G (ints gp) → Calls Tryd.prog 11 #[.agg #[.int .i64 ga, .int .i64 li, .slice A s.length cA, .slice G gp.length c]] W fun r w' => r = .returned (.int .i64 (frameE ga li s gp).2) ∧ Below W.heap.size W w') :=
    fun W h1 h2 => frErr_c ⟨ga, li, A, cA, s, G, c, gp⟩ W ⟨h1, h2, by show s.length ≤ _; omega, by show gp.length ≤ _; omega⟩
  have HFE2 : Hid (∀ W, Rd W A2 (gs s2) → Rd W G2 (ints gp2) → Calls Tryd.prog 11 #[.agg #[.int .i64 ga2, .int .i64 li2, .slice A2 s2.length cA2, .slice G2 gp2.length c2]] W fun r w' => r = .returned (.int .i64 (frameE ga2 li2 s2 gp2).2) ∧ Below W.heap.size W w') :=
    fun W h1 h2 => frErr_c ⟨ga2, li2, A2, cA2, s2, G2, c2, gp2⟩ W ⟨h1, h2, by show s2.length ≤ _; omega, by show gp2.length ≤ _; omega⟩
  rw [hv] at HFE
  rw [hv2] at HFE2
  have d4 : decide ((4 : Int) < (lines.length : Int)) = true := by simp; omega
  clear hf hf2 hq hq2 hv hv2 h4
  go_enter Tryd.func4, Tryd.ntmps4
  go_wp2_with (first
    | (go_at_call 12; have _g := hW5; refine (HLE.out _ (hx.bel hW5)).mono ?_; rintro e w6 ⟨rfl, hb6⟩; have hW6 := tr hW5 hb6 hW5.size; have hX6 := hX5.bel hb6; have hZ6 := hZ5.bel hb6)
    | (go_at_call 11; have _g := hW4; refine (HFE2.out _ (hs2.bel hW4) (hr2.bel hW4)).mono ?_; rintro e w5 ⟨rfl, hb5⟩; have hW5 := tr hW4 hb5 hW4.size; have hX5 := hX4.bel hb5; have hZ5 := hZ4.bel hb5; have c0 := hX5.cell 0; have c1 := hX5.cell 1; have c2 := hX5.cell 2; have c3 := hX5.cell 3; simp only [List.getElem?_cons_zero, List.getElem?_cons_succ] at c0 c1 c2 c3; have z0 := hZ5.cell 0; have z1 := hZ5.cell 1; have z2 := hZ5.cell 2; have z3 := hZ5.cell 3; simp only [List.getElem?_cons_zero, List.getElem?_cons_succ] at z0 z1 z2 z3)
    | (go_at_call 11; have _g := hW3; refine (HFE.out _ (hs.bel hW3) (hr.bel hW3)).mono ?_; rintro e w4 ⟨rfl, hb4⟩; have hW4 := tr hW3 hb4 hW3.size; have hX4 := hX3.bel hb4; have hZ4 := hZ3.bel hb4; have c0 := hX4.cell 0; have c1 := hX4.cell 1; have c2 := hX4.cell 2; have c3 := hX4.cell 3; simp only [List.getElem?_cons_zero, List.getElem?_cons_succ] at c0 c1 c2 c3; have z0 := hZ4.cell 0; have z1 := hZ4.cell 1; have z2 := hZ4.cell 2; have z3 := hZ4.cell 3; simp only [List.getElem?_cons_zero, List.getElem?_cons_succ] at z0 z1 z2 z3)
    | (go_at_call 7; have _g := hW2; refine (HF2.out _).mono ?_; rintro e w3 ⟨rfl, hb3⟩; have hW3 := tr hW2 hb3 hW2.size; have hX3 := hX2.bel hb3; have hZ3 := hZ2.bel hb3; have c0 := hX3.cell 0; have c1 := hX3.cell 1; have c2 := hX3.cell 2; have c3 := hX3.cell 3; simp only [List.getElem?_cons_zero, List.getElem?_cons_succ] at c0 c1 c2 c3; have z0 := hZ3.cell 0; have z1 := hZ3.cell 1; have z2 := hZ3.cell 2; have z3 := hZ3.cell 3; simp only [List.getElem?_cons_zero, List.getElem?_cons_succ] at z0 z1 z2 z3)
    | (go_at_call 7; have _g := hW1; refine (HF.out _).mono ?_; rintro e w2 ⟨rfl, hb2⟩; have hW2 := tr hW1 hb2 hW1.size; have hX2 := hX1.bel hb2; have hZ2 := hZ1.bel hb2; have c0 := hX2.cell 0; have c1 := hX2.cell 1; have c2 := hX2.cell 2; have c3 := hX2.cell 3; simp only [List.getElem?_cons_zero, List.getElem?_cons_succ] at c0 c1 c2 c3; have z0 := hZ2.cell 0; have z1 := hZ2.cell 1; have z2 := hZ2.cell 2; have z3 := hZ2.cell 3; simp only [List.getElem?_cons_zero, List.getElem?_cons_succ] at z0 z1 z2 z3)
    | (go_at_call 6; refine (awake_c _ (hT.bel hAA)).mono ?_; rintro e w1 ⟨rfl, hb1⟩; have hW1 := tr hAA hb1 (by simp; omega); have hX1 := hXX.bel hb1; have hZ1 := hZZ.bel hb1; have c0 := hX1.cell 0; have c1 := hX1.cell 1; have c2 := hX1.cell 2; have c3 := hX1.cell 3; simp only [List.getElem?_cons_zero, List.getElem?_cons_succ] at c0 c1 c2 c3; have z0 := hZ1.cell 0; have z1 := hZ1.cell 1; have z2 := hZ1.cell 2; have z3 := hZ1.cell 3; simp only [List.getElem?_cons_zero, List.getElem?_cons_succ] at z0 z1 z2 z3)
    )
  go_ret
  exact ⟨rfl, hW5⟩

theorem removed_6 (ga li : Int) (A G : Option Addr) (cA c : Nat) (s : List (Int × Int)) (gp : List Int) (ga2 li2 : Int) (A2 G2 : Option Addr) (cA2 c2 : Nat) (s2 : List (Int × Int)) (gp2 : List Int) (B : Option Addr) (cB : Nat) (lines : List Int) (w : World) (hT : Tab w) (hs : Rd w A (gs s)) (hr : Rd w G (ints gp)) (hs2 : Rd w A2 (gs s2)) (hr2 : Rd w G2 (ints gp2)) (hx : Rd w B (ints lines)) (hf : fewB s.length gp.length = true) (hf2 : fewB s2.length gp2.length = true) (hv : (frameE ga li s gp).2 = 0) (hv2 : (frameE ga2 li2 s2 gp2).2 = 0) (h4 : lines.length ≤ 4) (hz : remE ga li lines ≠ 0) :
    Calls Tryd.prog 4 #[.agg #[.int .i64 ga, .int .i64 li, .slice A s.length cA, .slice G gp.length c], .agg #[.int .i64 ga2, .int .i64 li2, .slice A2 s2.length cA2, .slice G2 gp2.length c2], .slice B lines.length cB] w fun r w' => r = .returned (.bool true) ∧ Below w.heap.size w w' := by
  have hXX := (Blk.new w 25 [.int .i64 ga, .int .i64 li, .slice A s.length cA, .slice G gp.length c]).bel (alloc_bel _ (.cells #[.int .i64 ga2, .int .i64 li2, .slice A2 s2.length cA2, .slice G2 gp2.length c2] 25))
  have hZZ := Blk.two w 25 25 [.int .i64 ga, .int .i64 li, .slice A s.length cA, .slice G gp.length c] [.int .i64 ga2, .int .i64 li2, .slice A2 s2.length cA2, .slice G2 gp2.length c2]
  have hAA : Below w.heap.size w ((w.alloc (.cells #[.int .i64 ga, .int .i64 li, .slice A s.length cA, .slice G gp.length c] 25)).alloc (.cells #[.int .i64 ga2, .int .i64 li2, .slice A2 s2.length cA2, .slice G2 gp2.length c2] 25)) := (alloc_bel _ _).alloc (by simp) _
  have HF := hide (fun W => fewFrame_c ga li A G s.length gp.length cA c W)
  have HF2 := hide (fun W => fewFrame_c ga2 li2 A2 G2 s2.length gp2.length cA2 c2 W)
  rw [hf] at HF
  rw [hf2] at HF2
  have hq : s.length ≤ 70 ∧ gp.length ≤ 70 := by simpa [fewB] using hf
  have hq2 : s2.length ≤ 70 ∧ gp2.length ≤ 70 := by simpa [fewB] using hf2
  have HFE : Hid (∀ W, Rd W A (gs s) → Rd W G (ints gp) → Calls Tryd.prog 11 #[.agg #[.int .i64 ga, .int .i64 li, .slice A s.length cA, .slice G gp.length c]] W fun r w' => r = .returned (.int .i64 (frameE ga li s gp).2) ∧ Below W.heap.size W w') :=
    fun W h1 h2 => frErr_c ⟨ga, li, A, cA, s, G, c, gp⟩ W ⟨h1, h2, by show s.length ≤ _; omega, by show gp.length ≤ _; omega⟩
  have HFE2 : Hid (∀ W, Rd W A2 (gs s2) → Rd W G2 (ints gp2) → Calls Tryd.prog 11 #[.agg #[.int .i64 ga2, .int .i64 li2, .slice A2 s2.length cA2, .slice G2 gp2.length c2]] W fun r w' => r = .returned (.int .i64 (frameE ga2 li2 s2 gp2).2) ∧ Below W.heap.size W w') :=
    fun W h1 h2 => frErr_c ⟨ga2, li2, A2, cA2, s2, G2, c2, gp2⟩ W ⟨h1, h2, by show s2.length ≤ _; omega, by show gp2.length ≤ _; omega⟩
  obtain ⟨hh, _, _⟩ := frameE_zero hv
  obtain ⟨q1, q2, l1, l2, n1, n2⟩ := headE_zero hh
  have HLE := hide (fun W h1 => refLinesErr_c ga li A G B s.length gp.length cA c cB lines W h1 (by omega) ⟨l1, l2⟩ ⟨q1, q2⟩)
  rw [hv] at HFE
  rw [hv2] at HFE2
  have e1 : (remE ga li lines != 0) = true := by simpa using hz
  have d4 : decide ((4 : Int) < (lines.length : Int)) = false := by simp; omega
  clear hf hf2 hq hq2 hv hv2 h4 hz hh q1 q2 l1 l2 n1 n2
  generalize remE ga li lines = E at HLE e1
  go_enter Tryd.func4, Tryd.ntmps4
  go_wp2_with (first
    | (go_at_call 12; have _g := hW5; refine (HLE.out _ (hx.bel hW5)).mono ?_; rintro e w6 ⟨rfl, hb6⟩; have hW6 := tr hW5 hb6 hW5.size; have hX6 := hX5.bel hb6; have hZ6 := hZ5.bel hb6)
    | (go_at_call 11; have _g := hW4; refine (HFE2.out _ (hs2.bel hW4) (hr2.bel hW4)).mono ?_; rintro e w5 ⟨rfl, hb5⟩; have hW5 := tr hW4 hb5 hW4.size; have hX5 := hX4.bel hb5; have hZ5 := hZ4.bel hb5; have c0 := hX5.cell 0; have c1 := hX5.cell 1; have c2 := hX5.cell 2; have c3 := hX5.cell 3; simp only [List.getElem?_cons_zero, List.getElem?_cons_succ] at c0 c1 c2 c3; have z0 := hZ5.cell 0; have z1 := hZ5.cell 1; have z2 := hZ5.cell 2; have z3 := hZ5.cell 3; simp only [List.getElem?_cons_zero, List.getElem?_cons_succ] at z0 z1 z2 z3)
    | (go_at_call 11; have _g := hW3; refine (HFE.out _ (hs.bel hW3) (hr.bel hW3)).mono ?_; rintro e w4 ⟨rfl, hb4⟩; have hW4 := tr hW3 hb4 hW3.size; have hX4 := hX3.bel hb4; have hZ4 := hZ3.bel hb4; have c0 := hX4.cell 0; have c1 := hX4.cell 1; have c2 := hX4.cell 2; have c3 := hX4.cell 3; simp only [List.getElem?_cons_zero, List.getElem?_cons_succ] at c0 c1 c2 c3; have z0 := hZ4.cell 0; have z1 := hZ4.cell 1; have z2 := hZ4.cell 2; have z3 := hZ4.cell 3; simp only [List.getElem?_cons_zero, List.getElem?_cons_succ] at z0 z1 z2 z3)
    | (go_at_call 7; have _g := hW2; refine (HF2.out _).mono ?_; rintro e w3 ⟨rfl, hb3⟩; have hW3 := tr hW2 hb3 hW2.size; have hX3 := hX2.bel hb3; have hZ3 := hZ2.bel hb3; have c0 := hX3.cell 0; have c1 := hX3.cell 1; have c2 := hX3.cell 2; have c3 := hX3.cell 3; simp only [List.getElem?_cons_zero, List.getElem?_cons_succ] at c0 c1 c2 c3; have z0 := hZ3.cell 0; have z1 := hZ3.cell 1; have z2 := hZ3.cell 2; have z3 := hZ3.cell 3; simp only [List.getElem?_cons_zero, List.getElem?_cons_succ] at z0 z1 z2 z3)
    | (go_at_call 7; have _g := hW1; refine (HF.out _).mono ?_; rintro e w2 ⟨rfl, hb2⟩; have hW2 := tr hW1 hb2 hW1.size; have hX2 := hX1.bel hb2; have hZ2 := hZ1.bel hb2; have c0 := hX2.cell 0; have c1 := hX2.cell 1; have c2 := hX2.cell 2; have c3 := hX2.cell 3; simp only [List.getElem?_cons_zero, List.getElem?_cons_succ] at c0 c1 c2 c3; have z0 := hZ2.cell 0; have z1 := hZ2.cell 1; have z2 := hZ2.cell 2; have z3 := hZ2.cell 3; simp only [List.getElem?_cons_zero, List.getElem?_cons_succ] at z0 z1 z2 z3)
    | (go_at_call 6; refine (awake_c _ (hT.bel hAA)).mono ?_; rintro e w1 ⟨rfl, hb1⟩; have hW1 := tr hAA hb1 (by simp; omega); have hX1 := hXX.bel hb1; have hZ1 := hZZ.bel hb1; have c0 := hX1.cell 0; have c1 := hX1.cell 1; have c2 := hX1.cell 2; have c3 := hX1.cell 3; simp only [List.getElem?_cons_zero, List.getElem?_cons_succ] at c0 c1 c2 c3; have z0 := hZ1.cell 0; have z1 := hZ1.cell 1; have z2 := hZ1.cell 2; have z3 := hZ1.cell 3; simp only [List.getElem?_cons_zero, List.getElem?_cons_succ] at z0 z1 z2 z3)
    )
  go_ret
  exact ⟨rfl, hW6⟩
end Go.Proofs.YtnigmdkhecblnaaDoor
