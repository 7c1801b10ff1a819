/- The examples of chapter 4 that each statement checks first hold. No condition. -/
import Derived.Test.YtdeehodekilaiaaF15
set_option linter.unusedSimpArgs false
set_option linter.unusedVariables false
namespace Go.Proofs.Ytdeehodekilaiaa
open Go.RowKit
set_option maxRecDepth 100000

theorem aw_virtR : virtR 100 skyL 500 = ((125, 125), 0) := by
  unfold virtR
  rw [sky_pro.err, sky_pass, sky_virt]
  rfl
theorem aw_virt (A : Option Addr) (w : World) (hr : Rd w A (gs skyL)) :
    Calls Try.prog 17 #[.agg #[.int .i64 100, .slice A 2 2], .int .i64 500] w fun r w' => r = .returned (.tuple #[.agg #[.int .i64 125, .int .i64 125], .int .i64 0]) ∧ Below w.heap.size w w' := by
  have h := virtualAt_c 100 500 A 2 skyL w hr (by decide)
  rw [aw_virtR] at h
  exact h
theorem aw_lam (A : Option Addr) (w : World) (hr : Rd w A (ps trL)) :
    Calls Try.prog 19 #[.agg #[.slice A 2 2, .int .i64 0, .int .i64 0]] w fun r w' => (∃ A c, r = .returned (.tuple #[.slice A 1 c, .int .i64 0, .int .i64 0]) ∧ Rd w' A (gs [(18, 22)])) ∧ Below w.heap.size w w' := by
  refine (laminatedAll_ok A 2 0 0 trL w hr tr_tr).mono ?_
  rintro r w' ⟨h, hb⟩
  rw [show trL.length - 1 = 1 from rfl, tr_lam] at h
  rcases h with ⟨_, h⟩ | ⟨h, _⟩
  · obtain ⟨A, c, e, h⟩ := h
    exact ⟨⟨A, c, e, h.1⟩, hb⟩
  · exact absurd rfl h
theorem aw_fit (A : Option Addr) (w : World) (hr : Rd w A (ps trL)) :
    Calls Try.prog 23 #[.agg #[.slice A 2 2, .int .i64 0, .int .i64 0]] w fun r w' => (∃ A c, r = .returned (.tuple #[.agg #[.int .i64 99, .slice A 2 c], .int .i64 0, .int .i64 0]) ∧ Rd w' A (gs [(90000, 20), (250000, 1)])) ∧ Below w.heap.size w w' := by
  refine (fitted_c A 2 0 trL w hr tr_tr (by decide)).mono ?_
  rintro r w' ⟨h, hb⟩
  rw [show trL.length - 1 = 1 from rfl, tr_fit] at h
  rcases h with ⟨_, h⟩ | ⟨h, _⟩
  · obtain ⟨A, c, e, h⟩ := h
    exact ⟨⟨A, c, e, h.1⟩, hb⟩
  · exact absurd rfl h
theorem aw_cont (A : Option Addr) (w : World) (hr : Rd w A (gs skyL)) :
    Calls Try.prog 31 #[.agg #[.int .i64 100, .slice A 2 2]] w fun r w' => r = .returned (.tuple #[.int .i64 4300000, .int .i64 0]) ∧ Below w.heap.size w w' := by
  have h := contentOf_c 100 A 2 skyL w hr (by decide)
  rw [show contR 100 skyL = (4300000, 0) by unfold contR; rw [sky_pro.err, show skyL.length = 2 from rfl, sky_content]; rfl] at h
  exact h
theorem aw_ranges (A : Option Addr) (c : Nat) (w : World) (hr : Rd w A (gs [(18, 22)])) :
    Calls Try.prog 32 #[.slice A 1 c, .slice (some ⟨w.heap.size, 0, none⟩) 1 1] (w.alloc (.cells #[.int .i64 18, .int .i64 22] 51)) fun r w' => r = .returned (.bool true) ∧ Below w.heap.size w w' := by
  have h := ranges_c [(18, 22)] [(18, 22)] A (some ⟨w.heap.size, 0, none⟩) c 1 (w.alloc (.cells #[.int .i64 18, .int .i64 22] 51)) (hr.alloc _) ((Blk.new w 51 (gs [(18, 22)])).rd (List.prefix_refl _)) (by decide)
  refine Calls.mono h ?_
  rintro r w' ⟨e, hb⟩
  exact ⟨by rw [e]; rfl, bel_tr (alloc_bel _ _) (by simp) hb⟩

set_option maxHeartbeats 2000000 in
theorem awake_c (w : World) : Calls Try.prog 6 #[] w fun r w' => r = .returned (.bool true) ∧ Below w.heap.size w w' := by
  go_enter Try.func6, Try.ntmps6
  go_upto_region 2 with (first
    | (go_at_call 29; refine (sky_c _).mono ?_; rintro e w1 ⟨⟨A1, rfl, hr1⟩, hb1⟩)
    | (go_at_call 17; refine (aw_virt _ _ hr1).mono ?_; rintro e w2 ⟨rfl, hb2⟩))
  obtain ⟨p, hp⟩ : ∃ p, w2.heap.size = p := ⟨_, rfl⟩
  obtain ⟨W2, hW2⟩ : ∃ W, w2.alloc (.cells #[.int .i64 125, .int .i64 125] 51) = W := ⟨_, rfl⟩
  have hP2 : Blk W2 p 51 [.int .i64 125, .int .i64 125] := by rw [← hW2, ← hp]; exact Blk.new w2 _ [_, _]
  have hB2 : Below w.heap.size w W2 := by rw [← hW2]; exact bel_alloc (tr hb1 hb2 hb1.size) (by have := hb1.size; have := hb2.size; omega) _
  rw [hW2]
  clear hW2 hr1 hb1 hb2
  go_upto_region 3 with (first
    | (go_at_call 30; refine (trace_c _).mono ?_; rintro e w3 ⟨⟨A3, rfl, hr3⟩, hb3⟩)
    | (go_at_call 19; refine (aw_lam _ _ hr3).mono ?_; rintro e w4 ⟨⟨A4, c4, rfl, hr4⟩, hb4⟩))
  have hB4 : Below w.heap.size w w4 := tr (tr hB2 hb3 hB2.size) hb4 (by have := hB2.size; have := hb3.size; omega)
  have hP4 := (hP2.bel hb3).bel hb4
  clear hP2 hB2 hr3 hb3 hb4
  go_upto_region 4 with (first
    | (go_at_call 30; refine (trace_c _).mono ?_; rintro e w5 ⟨⟨A5, rfl, hr5⟩, hb5⟩)
    | (go_at_call 23; refine (aw_fit _ _ hr5).mono ?_; rintro e w6 ⟨⟨A6, c6, rfl, hr6⟩, hb6⟩))
  have hB6 : Below w.heap.size w w6 := tr (tr hB4 hb5 hB4.size) hb6 (by have := hB4.size; have := hb5.size; omega)
  have hP6 := (hP4.bel hb5).bel hb6
  have hr46 := (hr4.bel hb5).bel hb6
  clear hP4 hB4 hr5 hb5 hb6 hr4
  obtain ⟨q, hq⟩ : ∃ q, w6.heap.size = q := ⟨_, rfl⟩
  obtain ⟨W6, hW6⟩ : ∃ W, w6.alloc (.cells #[.int .i64 99, .slice A6 2 c6] 24) = W := ⟨_, rfl⟩
  have hQ6 : Blk W6 q 24 [.int .i64 99, .slice A6 2 c6] := by rw [← hW6, ← hq]; exact Blk.new w6 _ [_, _]
  have hBW : Below w.heap.size w W6 := by rw [← hW6]; exact bel_alloc hB6 hB6.size _
  have hPW : Blk W6 p 51 [.int .i64 125, .int .i64 125] := by rw [← hW6]; exact hP6.bel (alloc_bel _ _)
  have hr4W : Rd W6 A4 (gs [(18, 22)]) := by rw [← hW6]; exact hr46.bel (alloc_bel _ _)
  have hr6W : Rd W6 A6 (gs [(90000, 20), (250000, 1)]) := by rw [← hW6]; exact hr6.bel (alloc_bel _ _)
  rw [hW6]
  clear hW6 hP6 hr46 hr6 hB6
  go_upto_region 5 with (first
    | (go_at_call 29; refine (sky_c _).mono ?_; rintro e w7 ⟨⟨A7, rfl, hr7⟩, hb7⟩)
    | (go_at_call 31; refine (aw_cont _ _ hr7).mono ?_; rintro e w8 ⟨rfl, hb8⟩))
  have hB8 : Below w.heap.size w w8 := tr (tr hBW hb7 hBW.size) hb8 (by have := hBW.size; have := hb7.size; omega)
  have hP8 := (hPW.bel hb7).bel hb8
  have hQ8 := (hQ6.bel hb7).bel hb8
  have hr48 := (hr4W.bel hb7).bel hb8
  have hr68 := (hr6W.bel hb7).bel hb8
  clear hPW hQ6 hr4W hr6W hr7 hb7 hb8 hBW
  have c0 := hP8.cell 0; have c1 := hP8.cell 1; simp only [List.getElem?_cons_zero, List.getElem?_cons_succ] at c0 c1
  have zp := hP8.lt
  have zq := hQ8.lt
  obtain ⟨b6, o6, rfl, hl6, d0, d1⟩ := hr68.g_at (k := 0) (by decide)
  simp only [List.getElem_cons_zero, Nat.zero_mul, Nat.add_zero] at d0 d1
  go_wp2_with (first | (go_at_call 32; refine (aw_ranges _ _ _ hr48).mono ?_; rintro e w9 ⟨rfl, hb9⟩; have hQ9 := hQ8.bel hb9; have k0 := hQ9.cell 0; have k1 := hQ9.cell 1; simp only [List.getElem?_cons_zero, List.getElem?_cons_succ] at k0 k1; have zq9 := hQ9.lt; have x0 := (hb9.cell hl6).trans d0; have x1 := (hb9.cell hl6).trans d1))
  go_ret
  exact ⟨rfl, tr hB8 hb9 hB8.size⟩
end Go.Proofs.Ytdeehodekilaiaa
