/- The examples of chapter 1 that each statement checks first hold. No condition but the laid table. -/
import Derived.Test.YtmedjedmeggbpaaDoorAw1
import Derived.Test.YtmedjedmeggbpaaDoorR1
import Derived.Test.YtmedjedmeggbpaaDoorHold
import Derived.Test.YtmedjedmeggbpaaDoorW27
namespace Go.Proofs.YtmedjedmeggbpaaDoor
open Go.RowKit
set_option maxRecDepth 100000

theorem Lists.bel {w w' : World} {vs : List Value} {ll : List (List Int)} (h : Lists w vs ll) (hb : Below w.heap.size w w') : Lists w' vs ll := h.keep fun _ _ h => h.bel hb

theorem Blk.new2 (w : World) (t1 t2 : TypeId) (l1 l2 : List Value) : Blk ((w.alloc (.cells l1.toArray t1)).alloc (.cells l2.toArray t2)) (w.heap.size + 1) t2 l2 := by
  have h := Blk.new (w.alloc (.cells l1.toArray t1)) t2 l2
  rwa [show (w.alloc (.cells l1.toArray t1)).heap.size = w.heap.size + 1 from by simp] at h
theorem Blk.new3 (w : World) (t1 t2 t3 : TypeId) (l1 l2 l3 : List Value) : Blk (((w.alloc (.cells l1.toArray t1)).alloc (.cells l2.toArray t2)).alloc (.cells l3.toArray t3)) (w.heap.size + 1 + 1) t3 l3 := by
  have h := Blk.new2 (w.alloc (.cells l1.toArray t1)) t2 t3 l2 l3
  rwa [show (w.alloc (.cells l1.toArray t1)).heap.size = w.heap.size + 1 from by simp] at h

theorem aw_powers (F A : Option Addr) (c : Nat) (w : World) (hT : Tab w) (hr : Rd w F [.int .i64 0, .int .i64 9, .slice A 4 4, .slice none 0 0]) (hs : Rd w A (gs [(3, 0), (0, 0), (1, 0), (0, 0)])) :
    Calls Tryd.prog 83 #[.slice F 1 c] w fun r w' => r = .returned (.tuple #[.agg #[.int .i64 16, .int .i64 4, .int .i64 16, .int .i64 4], .int .i64 0]) ∧ Below w.heap.size w w' := by
  obtain ⟨e0, q0, q1, q2, q3⟩ := aw_pow A
  refine (powersOf_c [awFr A] F c w hT hr (fun f hf => ?_) (by simp)).mono ?_
  · obtain rfl : f = awFr A := by simpa using hf
    exact ⟨hs, Rd.nil _ _, by simp [awFr], by simp [awFr]⟩
  · rintro r w' ⟨h, hb⟩
    refine ⟨?_, hb⟩
    rcases h with ⟨h, _⟩ | ⟨_, h⟩
    · exact absurd e0 h
    · rw [q0, q1, q2, q3] at h
      exact h

theorem aw_eql (W : World) : Sem.run Tryd.prog (Op.equalIn 10000 127 (.agg #[.int .i64 16, .int .i64 4, .int .i64 16, .int .i64 4]) (.agg #[.int .i64 16, .int .i64 4, .int .i64 16, .int .i64 4])) W = .ok true W := by kernel_rfl
attribute [local go_sem] aw_eql

theorem aw_lists (vs : List Value) (A B : Option Addr) (c d : Nat) (w : World) (hvs : vs.length = 2) (hr : Rd w A vs) (hL : Lists w vs [[-1, 1], [1, -1]]) (v1 v2 : Value) (hs : Rd w B [v1, v2]) (hM : Lists w [v1, v2] [[-1, 1], [1, -1]]) :
    Calls Tryd.prog 32 #[.slice A 2 c, .slice B 2 d] w fun r w' => r = .returned (.bool true) ∧ Below w.heap.size w w' := by
  have h := lists_c vs [v1, v2] _ _ A B c d w hr hs hL hM (by omega) (by simp) (by decide)
  rw [hvs] at h
  exact h
theorem aw_lits (w : World) : ∃ W, ((w.alloc (.cells #[.int .i64 (-1), .int .i64 1] 3)).alloc (.cells #[.int .i64 1, .int .i64 (-1)] 3)).alloc (.cells #[.slice (some ⟨w.heap.size, 0, none⟩) 2 2, .slice (some ⟨w.heap.size + 1, 0, none⟩) 2 2] 22) = W ∧
    Below w.heap.size w W ∧ Rd W (some ⟨w.heap.size + 1 + 1, 0, none⟩) [.slice (some ⟨w.heap.size, 0, none⟩) 2 2, .slice (some ⟨w.heap.size + 1, 0, none⟩) 2 2] ∧
    Lists W [.slice (some ⟨w.heap.size, 0, none⟩) 2 2, .slice (some ⟨w.heap.size + 1, 0, none⟩) 2 2] [[-1, 1], [1, -1]] := by
  obtain ⟨W, hW⟩ : ∃ W, ((w.alloc (.cells #[.int .i64 (-1), .int .i64 1] 3)).alloc (.cells #[.int .i64 1, .int .i64 (-1)] 3)).alloc (.cells #[.slice (some ⟨w.heap.size, 0, none⟩) 2 2, .slice (some ⟨w.heap.size + 1, 0, none⟩) 2 2] 22) = W := ⟨_, rfl⟩
  have b1 : Blk (w.alloc (.cells #[.int .i64 (-1), .int .i64 1] 3)) w.heap.size 3 (ints [-1, 1]) := Blk.new w _ _
  have b2 : Blk ((w.alloc (.cells #[.int .i64 (-1), .int .i64 1] 3)).alloc (.cells #[.int .i64 1, .int .i64 (-1)] 3)) (w.heap.size + 1) 3 (ints [1, -1]) := Blk.new2 w _ _ [_, _] _
  have b3 : Blk W (w.heap.size + 1 + 1) 22 [.slice (some ⟨w.heap.size, 0, none⟩) 2 2, .slice (some ⟨w.heap.size + 1, 0, none⟩) 2 2] := by rw [← hW]; exact Blk.new3 w _ _ _ [_, _] [_, _] _
  have c1 : Blk W w.heap.size 3 (ints [-1, 1]) := by rw [← hW]; exact (b1.bel (alloc_bel _ _)).bel (alloc_bel _ _)
  have c2 : Blk W (w.heap.size + 1) 3 (ints [1, -1]) := by rw [← hW]; exact b2.bel (alloc_bel _ _)
  refine ⟨W, hW, ?_, b3.rd (List.prefix_refl _), ⟨_, _, rfl, c1.rdT (List.prefix_refl _)⟩, ⟨_, _, rfl, c2.rdT (List.prefix_refl _)⟩, trivial⟩
  rw [← hW]
  exact tr (tr (alloc_bel _ _) (alloc_bel _ _) (by simp)) (alloc_bel _ _) (by simp; omega)

set_option maxHeartbeats 2000000 in
theorem awake_c (w : World) (hT : Tab w) : Calls Tryd.prog 15 #[] w fun r w' => r = .returned (.bool true) ∧ Below w.heap.size w w' := by
  go_enter Tryd.func15, Tryd.ntmps15
  go_upto_region 2 with (first
    | (go_at_call 29; refine (aw_partners _ _ _ ?_).mono ?_; exact (Blk.new w 3 [.int .i64 1, .int .i64 1]).rd (List.prefix_refl _); rintro e w1 ⟨⟨A1, c1, vs, rfl, hvs, hr1, hl1⟩, hb1⟩))
  have hT1 : Tab w1 := (hT.bel (alloc_bel _ _)).bel hb1
  have hW1 : Below w.heap.size w w1 := tr (alloc_bel _ _) hb1 (by simp)
  clear hb1
  go_upto_region 3 with (first
    | (go_at_call 90; refine (chirp_c _).mono ?_; rintro e w2 ⟨rfl, hb2⟩)
    | (go_at_call 46; refine (aw_wave _ (hT1.bel hb2)).mono ?_; rintro e w3 ⟨⟨A3, c3, rfl, hr3⟩, hb3⟩))
  have hT3 : Tab w3 := (hT1.bel hb2).bel hb3
  have hW2 : Below w.heap.size w w2 := tr hW1 hb2 hW1.size
  have hW3 : Below w.heap.size w w3 := tr hW2 hb3 hW2.size
  have hr1' : Rd w3 A1 vs := (hr1.bel hb2).bel hb3
  have hl1' : Lists w3 vs [[-1, 1], [1, -1]] := (hl1.bel hb2).bel hb3
  clear hr1 hl1 hT1 hW1 hW2 hb2 hb3
  go_upto_region 4 with (first
    | (go_at_call 91; refine (frame_c _).mono ?_; rintro e w4 ⟨⟨A4, G4, rfl, hra, hrg⟩, hb4⟩)
    | (go_at_call 60; refine (aw_line _ _ _ _ _ _ _ ?_ ?_ ?_ ?_).mono ?_; exact (hT3.bel hb4).bel (alloc_bel _ _); exact hra.bel (alloc_bel _ _); exact hrg.bel (alloc_bel _ _); exact (Blk.new w4 76 (gs [(1, 0), (1, 0)])).rd (List.prefix_refl _); rintro e w5 ⟨⟨V5, M5, rfl, hrm⟩, hb5⟩))
  have hW4 : Below w.heap.size w w4 := tr hW3 hb4 hW3.size
  have hW5 : Below w.heap.size w w5 := tr (tr hW4 (alloc_bel w4 (.cells (gs [(1, 0), (1, 0)]).toArray 76)) hW4.size) hb5 (by have := hW4.size; simp; omega)
  have up5 : Below w3.heap.size w3 w5 := tr (tr hb4 (alloc_bel w4 (.cells (gs [(1, 0), (1, 0)]).toArray 76)) hb4.size) hb5 (by have := hb4.size; simp; omega)
  obtain ⟨W6, hW6⟩ : ∃ W, w5.alloc (.cells #[.slice V5 3 3, .slice M5 3 3] 89) = W := ⟨_, rfl⟩
  have hB6 : Blk W6 w5.heap.size 89 [.slice V5 3 3, .slice M5 3 3] := by rw [← hW6]; exact Blk.new w5 _ [_, _]
  have up6 : Below w3.heap.size w3 W6 := by rw [← hW6]; exact tr up5 (alloc_bel w5 _) up5.size
  have hrm6 : Rd W6 M5 (ints [0, 1, 1]) := by rw [← hW6]; exact hrm.bel (alloc_bel w5 _)
  rw [hW6]
  clear hW6 hrm hra hrg hb4 hb5 up5 hW4
  have hT6 := hT3.bel up6
  have hr16 := hr1'.bel up6
  have hl16 := hl1'.bel up6
  have hr36 := hr3.bel up6
  have hW6 : Below w.heap.size w W6 := tr hW3 up6 hW3.size
  clear hT3 hr1' hl1' hr3 up6 hW3 hW5
  go_upto_region 5 with (first
    | (go_at_call 83; refine (aw_powers _ (some ⟨W6.heap.size, 0, none⟩) _ _ ?_ ?_ ?_).mono ?_; exact (hT6.bel (alloc_bel _ _)).bel (alloc_bel _ _); exact (Blk.new2 W6 76 81 (gs [(3, 0), (0, 0), (1, 0), (0, 0)]) [.int .i64 0, .int .i64 9, .slice (some ⟨W6.heap.size, 0, none⟩) 4 4, .slice none 0 0]).rd (List.prefix_refl _); exact ((Blk.new W6 76 (gs [(3, 0), (0, 0), (1, 0), (0, 0)])).rd (List.prefix_refl _)).bel (alloc_bel _ _); rintro e w7 ⟨rfl, hb7⟩))
  obtain ⟨W8, hW8⟩ : ∃ W, w7.alloc (.cells #[.int .i64 16, .int .i64 4, .int .i64 16, .int .i64 4] 127) = W := ⟨_, rfl⟩
  have up7 : Below W6.heap.size W6 w7 := tr (tr (alloc_bel W6 _) (alloc_bel _ _) (by simp)) hb7 (by simp; omega)
  have hB8 : Blk W8 w7.heap.size 127 [.int .i64 16, .int .i64 4, .int .i64 16, .int .i64 4] := by rw [← hW8]; exact Blk.new w7 _ [_, _, _, _]
  have up8 : Below W6.heap.size W6 W8 := by rw [← hW8]; exact tr up7 (alloc_bel w7 _) up7.size
  rw [hW8]
  clear hW8 hb7 up7 hT6
  have hW8 : Below w.heap.size w W8 := tr hW6 up8 hW6.size
  have hr18 := hr16.bel up8
  have hl18 := hl16.bel up8
  have hr38 := hr36.bel up8
  have hrm8 := hrm6.bel up8
  have hB58 := hB6.bel up8
  clear hr16 hl16 hr36 hrm6 hB6 up8 hW6
  obtain ⟨W9, hW9, hb9, hr9, hl9⟩ := aw_lits W8
  have HL := hide (aw_lists vs A1 (some ⟨W8.heap.size + 1 + 1, 0, none⟩) c1 2 W9 hvs (hr18.bel hb9) (hl18.bel hb9) _ _ hr9 hl9)
  have hr39 := hr38.bel hb9
  have hrm9 := hrm8.bel hb9
  have hB59 := hB58.bel hb9
  have hB79 := hB8.bel hb9
  have hw9 : Below w.heap.size w W9 := tr hW8 hb9 hW8.size
  clear hr9 hl9 hr18 hl18 hr38 hrm8 hB58 hB8 hb9 hW8 hvs
  go_wp2_with (first
    | (go_at_call 32; (try rw [hW9]); refine HL.out.mono ?_; rintro e w10 ⟨rfl, hb10⟩; have hr310 := hr39.bel hb10)
    | (go_at_call 24; refine (gausses_c [(1, 0), (1, 0), (1, 0), (0, 1), (0, -1), (-1, 0)] [(1, 0), (1, 0), (1, 0), (0, 1), (0, -1), (-1, 0)] _ _ _ _ _ ?_ ?_ (by decide)).mono ?_; exact hr310.bel (alloc_bel _ _); exact (Blk.new w10 76 (gs [(1, 0), (1, 0), (1, 0), (0, 1), (0, -1), (-1, 0)])).rd (List.prefix_refl _); rintro e w11 ⟨rfl, hb11⟩; have up11 : Below w10.heap.size w10 w11 := tr (alloc_bel _ _) hb11 (by simp); have hrm11 := (hrm9.bel hb10).bel up11; have hB511 := (hB59.bel hb10).bel up11; have y511 := hB511.cell 1; simp only [List.getElem?_cons_succ, List.getElem?_cons_zero] at y511)
    | (go_at_call 31; refine (ints_c [0, 1, 1] [0, 1, 1] _ _ _ _ _ ?_ ?_ (by decide)).mono ?_; exact hrm11.bel (alloc_bel _ _); exact (Blk.new w11 3 (ints [0, 1, 1])).rd (List.prefix_refl _); rintro e w12 ⟨rfl, hb12⟩; have up12 : Below w11.heap.size w11 w12 := tr (alloc_bel _ _) hb12 (by simp); have hB712 := ((hB79.bel hb10).bel up11).bel up12; have z0 := hB712.cell 0; have z1 := hB712.cell 1; have z2 := hB712.cell 2; have z3 := hB712.cell 3; simp only [List.getElem?_cons_succ, List.getElem?_cons_zero] at z0 z1 z2 z3))
  go_ret
  exact ⟨rfl, tr hw9 (tr (tr hb10 up11 hb10.size) up12 (by have := hb10.size; have := up11.size; omega)) hw9.size⟩
end Go.Proofs.YtmedjedmeggbpaaDoor
