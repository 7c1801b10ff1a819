/- Contracts: a checked trace, its squares and indexes. -/
import Derived.Test.YtdeehodekilaiaaF8b
set_option linter.unusedSimpArgs false
set_option linter.unusedVariables false
namespace Go.Proofs.Ytdeehodekilaiaa
open Go.RowKit
set_option maxRecDepth 100000

theorem checkTrace1_c (k : Nat) (f lo hi : Int) (A : Option Addr) (c : Nat) (after width : Int) (B : Nat) (l : List PT) (w : World) (hB : Blk w B 30 [.slice A l.length c, .int .i64 after, .int .i64 width]) (hr : Rd w A (ps l)) (hk : k < l.length) (hl : l.length ≤ 1000) :
    Calls Try.prog 72 (#[.int .i64 (k : Int), .agg #[.int .i64 f, .int .i64 lo, .int .i64 hi]] ++ #[.pointer (some ⟨B, 0, none⟩)]) w fun r w' => r = .returned (.int .i64 (pointE l k (f, lo, hi))) ∧ Below w.heap.size w w' := by
  cases k with
  | zero => exact checkTrace1_zero f lo hi A c after width B l w hB
  | succ j =>
    have := checkTrace1_succ j f lo hi A c after width B l w hB hr hk hl
    rwa [show (((j + 1 : Nat) : Int)) = (j : Int) + 1 by omega]

set_option maxHeartbeats 1000000 in
theorem checkTrace_c (A : Option Addr) (c : Nat) (after width : Int) (l : List PT) (w : World) (hr : Rd w A (ps l)) (hl : l.length ≤ 1000) :
    Calls Try.prog 62 #[.agg #[.slice A l.length c, .int .i64 after, .int .i64 width]] w fun r w' => r = .returned (.tuple #[.int .i64 (trE l after width).1, .int .i64 (trE l after width).2]) ∧ Below w.heap.size w w' := by
  have hX := Blk.new w 30 [.slice A l.length c, .int .i64 after, .int .i64 width]
  have hbel := alloc_bel w (.cells #[.slice A l.length c, .int .i64 after, .int .i64 width] 30)
  have hrW := hr.alloc (.cells #[.slice A l.length c, .int .i64 after, .int .i64 width] 30)
  generalize hW : w.alloc (.cells #[.slice A l.length c, .int .i64 after, .int .i64 width] 30) = W at hX hbel hrW
  have HW := hide hW
  clear hW
  have c0 := hX.cell 0; have c1 := hX.cell 1; have c2 := hX.cell 2; simp only [List.getElem?_cons_zero, List.getElem?_cons_succ] at c0 c1 c2
  have hzW := hX.lt
  have u1 : IntKind.i64.wrap ((l.length : Int) - 1) = (l.length : Int) - 1 := by simp (disch := omega) only [IntWalk.i64_in]
  go_enter Try.func62, Try.ntmps62
  go_wp2
  rw [HW.out]
  go_region_held3 (fun w' => (∀ b o, b < W.heap.size → w'.cell? ⟨b, o, none⟩ = W.cell? ⟨b, o, none⟩) ∧ Below W.heap.size W w')
    ((refine kp ?_; (repeat' (first | with_reducible exact Below.refl _ _ | with_reducible refine Below.drew ?_ | with_reducible refine bel_alloc ?_ ?_ _)); all_goals (first | omega | (simp <;> omega))))
    (first
      | (go_at_call 35; refine (errorIf_c _ _ _).mono ?_; rintro e_ w_ ⟨rfl, rfl⟩)
      | (go_at_call 55; refine (outside_c _ _ _ _).mono ?_; rintro e_ w_ ⟨rfl, rfl⟩)
      | (go_at_call 33; refine (firstError_4D _ _ _ _ _).mono ?_; rintro e_ w_ ⟨rfl, rfl⟩)
      | (go_at_call 33; refine (firstError_4 _ _ _ _ _).mono ?_; rintro e_ w_ ⟨rfl, rfl⟩))
  clear u1
  rw [show firstE [errIf ((l.length : Int) == 0) 10, errIf (decide (8 < (l.length : Int))) 8, errIf (outB width 0 500) 2, errIf (outB after 0 ((l.length : Int) - 1)) 6] = trHead l.length after width from rfl]
  obtain ⟨o, ho⟩ : ∃ o, (Obj.cells #[.int .i64 (errIf ((l.length : Int) == 0) 10), .int .i64 (errIf (decide (8 < (l.length : Int))) 8), .int .i64 (errIf (outB width 0 500) 2), .int .i64 (errIf (outB after 0 ((l.length : Int) - 1)) 6)] 31) = o := ⟨_, rfl⟩
  rw [ho]
  clear ho
  have hb1 : Below w.heap.size w (W.alloc o).drew := bel_tr hbel (by omega) (bel_alloc (Below.refl _ _) (Nat.le_refl _) _).drew
  have hb2 : Below W.heap.size W (W.alloc o).drew := (bel_alloc (Below.refl _ _) (Nat.le_refl _) _).drew
  generalize (W.alloc o).drew = W2 at hb1 hb2 ⊢
  have hr2 := hrW.bel hb2
  have hX2 := hX.bel hb2
  have d0 := hX2.cell 0
  simp only [List.getElem?_cons_zero] at d0
  clear c0 c1 c2 hrW HW hX
  by_cases h0 : trHead l.length after width = 0
  · have e1 : (trHead l.length after width != 0) = false := by simpa using h0
    have HR : Hid (trE l after width = firstBadFrom (pointE l) 0 l) := by show _ = _; unfold trE; rw [if_pos h0]
    clear h0
    go_wp2_with (first | (go_at_call 71; refine (firstBadP_c (pointE l) _ l _ _ _ _ hr2 hl Try.call72 (fun k h W' hb => checkTrace1_c k _ _ _ A c after width w.heap.size l W' (hX2.bel hb) (hr2.bel hb) h hl)).mono ?_; rintro e w2 ⟨rfl, hb3⟩))
    go_ret2
    exact ⟨by rw [HR.out]; rfl, bel_tr hb1 hb1.size hb3⟩
  · have e1 : (trHead l.length after width != 0) = true := by simpa using h0
    have HR : Hid (trE l after width = (0, trHead l.length after width)) := by show _ = _; unfold trE; rw [if_neg h0]
    clear h0
    go_wp2
    go_ret2
    exact ⟨by rw [HR.out]; rfl, hb1⟩

/-- The answer of checked. -/
def chkV (A : Option Addr) (n c : Nat) (after width e : Int) : Value := .tuple #[if e = 0 then .agg #[.slice A n c, .int .i64 after, .int .i64 width] else .agg #[.slice none 0 0, .int .i64 0, .int .i64 0], .int .i64 e]
set_option maxHeartbeats 1000000 in
theorem checked_c (A : Option Addr) (c : Nat) (after width : Int) (l : List PT) (w : World) (hr : Rd w A (ps l)) (hl : l.length ≤ 1000) :
    Calls Try.prog 47 #[.agg #[.slice A l.length c, .int .i64 after, .int .i64 width]] w fun r w' => r = .returned (chkV A l.length c after width (trE l after width).2) ∧ Below w.heap.size w w' := by
  have HC := hide (fun W h => checkTrace_c A c after width l W h hl)
  generalize (trE l after width).1 = i at HC
  generalize (trE l after width).2 = e at HC ⊢
  obtain ⟨W0, hW0⟩ : ∃ W0, (w.alloc (.cells #[.slice A l.length c, .int .i64 after, .int .i64 width] 30)).alloc (.cells #[.slice none 0 0, .int .i64 0, .int .i64 0] 98) = W0 := ⟨_, rfl⟩
  obtain ⟨p, hp⟩ : ∃ p, w.heap.size = p := ⟨_, rfl⟩
  have hX0 : Blk W0 p 30 [.slice A l.length c, .int .i64 after, .int .i64 width] := by rw [← hW0, ← hp]; exact (Blk.new w _ [_, _, _]).bel (alloc_bel _ _)
  have hR0 : Blk W0 (p + 1) 98 [.slice none 0 0, .int .i64 0, .int .i64 0] := by rw [← hW0, ← hp]; have := Blk.new (w.alloc (.cells #[.slice A l.length c, .int .i64 after, .int .i64 width] 30)) 98 [.slice none 0 0, .int .i64 0, .int .i64 0]; simpa using this
  have hB0 : Below p w W0 := by rw [← hW0, ← hp]; exact bel_alloc (alloc_bel w _) (by simp) _
  have HW := hide hW0
  have hr0 := hr.bel (by rw [hp]; exact hB0)
  have hz0 := hR0.lt
  clear hW0 hr
  have c0 := hX0.cell 0; have c1 := hX0.cell 1; have c2 := hX0.cell 2; simp only [List.getElem?_cons_zero, List.getElem?_cons_succ] at c0 c1 c2
  by_cases he : e = 0
  · have e1 : (e != 0) = false := by simpa using he
    have HE := hide he
    clear he
    go_enter Try.func47, Try.ntmps47
    go_upto_region 1 with fail
    rw [HW.out]
    go_wp2_with (first | (go_at_call 62; refine (HC.out _ hr0).mono ?_; rintro e w1 ⟨rfl, hb1⟩; have hX1 := hX0.bel hb1; have d0 := hX1.cell 0; have d1 := hX1.cell 1; have d2 := hX1.cell 2; simp only [List.getElem?_cons_zero, List.getElem?_cons_succ] at d0 d1 d2; have hR1 := hR0.bel hb1; have k0 := hR1.cell 0; have k1 := hR1.cell 1; have k2 := hR1.cell 2; have k3 := hR1.frozen 0; have k4 := hR1.frozen 1; have k5 := hR1.frozen 2; simp only [List.getElem?_cons_zero, List.getElem?_cons_succ] at k0 k1 k2))
    obtain ⟨WE, hWE⟩ : ∃ WE, ((w1.setCell ⟨p + 1, 0, none⟩ (.slice A l.length c)).setCell ⟨p + 1, 1, none⟩ (.int .i64 after)).setCell ⟨p + 1, 2, none⟩ (.int .i64 width) = WE := ⟨_, rfl⟩
    rw [hWE]
    have hE : Blk WE (p + 1) 98 [.slice A l.length c, .int .i64 after, .int .i64 width] := by rw [← hWE]; exact ((hR1.set_ 0 _).set_ 1 _).set_ 2 _
    have hBE : Below p w WE := by rw [← hWE]; exact (((bel_tr hB0 (by omega) hb1).setCell (by show p ≤ p + 1; omega) _).setCell (by show p ≤ p + 1; omega) _).setCell (by show p ≤ p + 1; omega) _
    clear hWE
    have g0 := hE.cell 0; have g1 := hE.cell 1; have g2 := hE.cell 2; simp only [List.getElem?_cons_zero, List.getElem?_cons_succ] at g0 g1 g2
    exact bodyPost_ret (v := .tuple #[.agg #[.slice A l.length c, .int .i64 after, .int .i64 width], .int .i64 0]) (by simp [results, Try.results47, go_sem, g0, g1, g2]; try rfl) rfl ⟨by unfold chkV; rw [if_pos HE.out, HE.out], by rw [hp]; exact hBE⟩
  · have e1 : (e != 0) = true := by simpa using he
    have HE := hide he
    clear he
    go_enter Try.func47, Try.ntmps47
    go_upto_region 1 with fail
    rw [HW.out]
    go_wp2_with (first | (go_at_call 62; refine (HC.out _ hr0).mono ?_; rintro e w1 ⟨rfl, hb1⟩; have hR1 := hR0.bel hb1; have k0 := hR1.cell 0; have k1 := hR1.cell 1; have k2 := hR1.cell 2; have k3 := hR1.frozen 0; have k4 := hR1.frozen 1; have k5 := hR1.frozen 2; simp only [List.getElem?_cons_zero, List.getElem?_cons_succ] at k0 k1 k2))
    obtain ⟨WE, hWE⟩ : ∃ WE, ((w1.setCell ⟨p + 1, 0, none⟩ (.slice none 0 0)).setCell ⟨p + 1, 1, none⟩ (.int .i64 0)).setCell ⟨p + 1, 2, none⟩ (.int .i64 0) = WE := ⟨_, rfl⟩
    rw [hWE]
    have hE : Blk WE (p + 1) 98 [.slice none 0 0, .int .i64 0, .int .i64 0] := by rw [← hWE]; exact ((hR1.set_ 0 _).set_ 1 _).set_ 2 _
    have hBE : Below p w WE := by rw [← hWE]; exact (((bel_tr hB0 (by omega) hb1).setCell (by show p ≤ p + 1; omega) _).setCell (by show p ≤ p + 1; omega) _).setCell (by show p ≤ p + 1; omega) _
    clear hWE
    have g0 := hE.cell 0; have g1 := hE.cell 1; have g2 := hE.cell 2; simp only [List.getElem?_cons_zero, List.getElem?_cons_succ] at g0 g1 g2
    exact bodyPost_ret (v := .tuple #[.agg #[.slice none 0 0, .int .i64 0, .int .i64 0], .int .i64 e]) (by simp [results, Try.results47, go_sem, g0, g1, g2]; try rfl) rfl ⟨by unfold chkV; rw [if_neg HE.out], by rw [hp]; exact hBE⟩

theorem slabs_c (A : Option Addr) (n c : Nat) (after width : Int) (w : World) (_ : n ≤ 1000) (h1 : 1 ≤ n) :
    Calls Try.prog 49 #[.agg #[.slice A n c, .int .i64 after, .int .i64 width]] w fun r w' => r = .returned (.int .i64 ((n - 1 : Nat) : Int)) ∧ Below w.heap.size w w' := by
  go_enter Try.func49, Try.ntmps49
  go_wp2
  go_ret
  exact ⟨ret_int (by omega), alloc_bel _ _⟩

set_option maxHeartbeats 1000000 in
theorem square_c (b off n c j : Nat) (after width f : Int) (w : World) (hc : w.cell? ⟨b, off + j * 3, none⟩ = some (.int .i64 f)) (hj : j < n) (_ : n ≤ 1000) (h1 : 1 ≤ f) (h2 : f ≤ 3000) :
    Calls Try.prog 51 #[.agg #[.slice (some ⟨b, off, none⟩) n c, .int .i64 after, .int .i64 width], .int .i64 j] w fun r w' => r = .returned (.int .i64 (f * f)) ∧ Below w.heap.size w w' := by
  have hff := mul_bd (show 0 ≤ f by omega) h2 (show 0 ≤ f by omega) h2
  have hb := World.block_lt_of_cell? _ _ hc
  dsimp only at hb
  go_enter Try.func51, Try.ntmps51
  go_wp2
  go_quiet (fail)
  go_wp2
  go_ret
  exact ⟨rfl, below_drewN (alloc_bel _ _) _⟩
end Go.Proofs.Ytdeehodekilaiaa
