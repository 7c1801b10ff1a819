/- Contracts: equal frames, as the reference has them. -/
import Derived.Test.YtnigmdkhecblnaaDoorP15
set_option linter.unusedSimpArgs false
set_option linter.unusedVariables false
namespace Go.Proofs.YtnigmdkhecblnaaDoor
open Go.RowKit
set_option maxRecDepth 100000

theorem gausses_eq (l : List (Int × Int)) (A B : Option Addr) (c d : Nat) (w : World) (hr : Rd w A (gs l)) (hs : Rd w B (gs l)) (hl : l.length ≤ 1000) :
    Calls Tryd.prog 37 #[.slice A l.length c, .slice B l.length d] w fun r w' => r = .returned (.bool true) ∧ Below w.heap.size w w' := by
  have h := gausses_c l l A B c d w hr hs hl
  rw [decide_eq_true rfl] at h
  exact h

set_option maxHeartbeats 1000000 in
theorem sameFrame_c (gain limit : Int) (samples : List (Int × Int)) (gaps : List Int) (A A' B B' : Option Addr) (q1 q2 q3 q4 n m : Nat) (w : World) (hn : samples.length = n) (hm : gaps.length = m) (hl : n ≤ 1000) (hk : m ≤ 1000) (h1 : Rd w A (gs samples)) (h2 : Rd w A' (gs samples)) (h3 : Rd w B (ints gaps)) (h4 : Rd w B' (ints gaps)) :
    Calls Tryd.prog 13 #[.agg #[.int .i64 gain, .int .i64 limit, .slice A n q1, .slice B m q2], .agg #[.int .i64 gain, .int .i64 limit, .slice A' n q3, .slice B' m q4]] w fun r w' => r = .returned (.bool true) ∧ Below w.heap.size w w' := by
  subst hn hm
  have hX := Blk.new w 25 [.int .i64 gain, .int .i64 limit, .slice A samples.length q1, .slice B gaps.length q2]
  have hY := Blk.two w 25 25 [.int .i64 gain, .int .i64 limit, .slice A samples.length q1, .slice B gaps.length q2] [.int .i64 gain, .int .i64 limit, .slice A' samples.length q3, .slice B' gaps.length q4]
  have HG := hide (fun W h1 h2 => gausses_eq samples A A' q1 q3 W h1 h2 hl)
  have HI := hide (fun W h1 h2 => ints_eq gaps B B' q2 q4 W h1 h2 hk)
  go_enter Tryd.func13, Tryd.ntmps13
  go_upto_region 1 with fail
  obtain ⟨W, hW⟩ : ∃ W, (w.alloc (.cells #[.int .i64 gain, .int .i64 limit, .slice A samples.length q1, .slice B gaps.length q2] 25)).alloc (.cells #[.int .i64 gain, .int .i64 limit, .slice A' samples.length q3, .slice B' gaps.length q4] 25) = W := ⟨_, rfl⟩
  have hwW : Below w.heap.size w W := by rw [← hW]; exact (alloc_bel _ _).alloc (by simp) _
  have hXW : Blk W w.heap.size 25 [.int .i64 gain, .int .i64 limit, .slice A samples.length q1, .slice B gaps.length q2] := by rw [← hW]; exact hX.bel (alloc_bel _ _)
  have hYW : Blk W (w.heap.size + 1) 25 [.int .i64 gain, .int .i64 limit, .slice A' samples.length q3, .slice B' gaps.length q4] := by rw [← hW]; exact hY
  rw [hW]
  clear hW hX hY
  have c0 := hXW.cell 0; have c1 := hXW.cell 1; have c2 := hXW.cell 2; have c3 := hXW.cell 3; simp only [List.getElem?_cons_zero, List.getElem?_cons_succ] at c0 c1 c2 c3
  have y0 := hYW.cell 0; have y1 := hYW.cell 1; have y2 := hYW.cell 2; have y3 := hYW.cell 3; simp only [List.getElem?_cons_zero, List.getElem?_cons_succ] at y0 y1 y2 y3
  go_wp2_with (first
    | (go_at_call 37; refine (HG.out _ (h1.bel hwW) (h2.bel hwW)).mono ?_; rintro e w1 ⟨rfl, hb1⟩; have hW1 := tr hwW hb1 hwW.size; have hX1 := hXW.bel hb1; have hY1 := hYW.bel hb1; have z0 := hX1.cell 0; have z1 := hX1.cell 1; have z2 := hX1.cell 2; have z3 := hX1.cell 3; simp only [List.getElem?_cons_zero, List.getElem?_cons_succ] at z0 z1 z2 z3; have u0 := hY1.cell 0; have u1 := hY1.cell 1; have u2 := hY1.cell 2; have u3 := hY1.cell 3; simp only [List.getElem?_cons_zero, List.getElem?_cons_succ] at u0 u1 u2 u3)
    | (go_at_call 17; refine (HI.out _ (h3.bel hW1) (h4.bel hW1)).mono ?_; rintro e w2 ⟨rfl, hb2⟩; have hW2 := tr hW1 hb2 hW1.size))
  go_ret
  exact ⟨rfl, hW2⟩
end Go.Proofs.YtnigmdkhecblnaaDoor
