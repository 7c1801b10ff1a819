/- Contracts: a chirp at a tick. -/
import Derived.Test.YtmedjedmeggbpaaDoorW7
import Derived.Deep.DeepCutAuto
namespace Go.Proofs.YtmedjedmeggbpaaDoor
open Go.RowKit
set_option maxRecDepth 100000

theorem chirpAt_c (s n d t : Int) (w : World) :
    Calls Tryd.prog 44 #[.agg #[.int .i64 s, .int .i64 n, .int .i64 d], .int .i64 t] w fun r w' =>
      r = .returned (.tuple #[.int .i64 (if chirpNE s n d t 0 1000000 = 0 then freq s n d t else 0), .int .i64 (chirpNE s n d t 0 1000000)]) ∧ Below w.heap.size w w' := by
  have HF : Hid (firstE [chirpE s n d, errIf (outB t 0 1000000) 2] = chirpNE s n d t 0 1000000) := rfl
  have hb0 : Below w.heap.size w (w.alloc (.cells #[.int .i64 s, .int .i64 n, .int .i64 d] 64)) := (Below.refl _ _).alloc (Nat.le_refl _) _
  by_cases he : chirpNE s n d t 0 1000000 = 0
  · obtain ⟨g0, g1, g2⟩ := chirpNE_zero he
    obtain ⟨q1, q2, q3, q4, q5, q6⟩ := chirpE_zero g0
    have e1 : (chirpNE s n d t 0 1000000 != 0) = false := by simpa using he
    have HE := hide he
    rw [if_pos he]
    clear he g0
    go_enter Tryd.func44, Tryd.ntmps44
    go_upto_region 2 with (first
      | (go_at_call 48; refine (checkChirp_c _ _ _ _).mono ?_; rintro e w1 ⟨rfl, hb1⟩)
      | (go_at_call 93; refine (errorIf_c _ _ _).mono ?_; rintro e_ w_ ⟨rfl, rfl⟩) | (go_at_call 94; refine (outside_c _ _ _ _).mono ?_; rintro e_ w_ ⟨rfl, rfl⟩) | (go_at_call 92; refine (firstError_2 _ _ _).mono ?_; rintro e_ w_ ⟨rfl, rfl⟩))
    rw [HF.out]
    have hX : Blk (w.alloc (.cells #[.int .i64 s, .int .i64 n, .int .i64 d] 64)) w.heap.size 64 [.int .i64 s, .int .i64 n, .int .i64 d] := Blk.new w _ [_, _, _]
    have hX1 := hX.bel hb1
    obtain ⟨V, hV⟩ : ∃ V, w1.alloc (.cells #[.int .i64 (chirpE s n d), .int .i64 (errIf (outB t 0 1000000) 2)] 25) = V := ⟨_, rfl⟩
    rw [hV]
    have hb1V : Below w1.heap.size w1 V := by rw [← hV]; exact (Below.refl _ _).alloc (Nat.le_refl _) _
    have hXV := hX1.bel hb1V
    clear hV
    have c0 := hXV.cell 0
    have c1 := hXV.cell 1
    have c2 := hXV.cell 2
    simp only [List.getElem?_cons_zero, List.getElem?_cons_succ] at c0 c1 c2
    have hwV : Below w.heap.size w V := tr (tr hb0 hb1 (by simp)) hb1V (by have := hb1.size; simp at this; omega)
    go_wp2_with (go_at_call 108; refine (frequency_c s n d t _ q1 q2 q3 q4 q5 q6 g1 g2).mono ?_; rintro e w3 ⟨rfl, hb3⟩)
    go_ret2
    exact ⟨by rw [HE.out]; rfl, tr hwV hb3 hwV.size⟩
  · have e1 : (chirpNE s n d t 0 1000000 != 0) = true := by simpa using he
    rw [if_neg he]
    clear he
    go_enter Tryd.func44, Tryd.ntmps44
    go_upto_region 2 with (first
      | (go_at_call 48; refine (checkChirp_c _ _ _ _).mono ?_; rintro e w1 ⟨rfl, hb1⟩)
      | (go_at_call 93; refine (errorIf_c _ _ _).mono ?_; rintro e_ w_ ⟨rfl, rfl⟩) | (go_at_call 94; refine (outside_c _ _ _ _).mono ?_; rintro e_ w_ ⟨rfl, rfl⟩) | (go_at_call 92; refine (firstError_2 _ _ _).mono ?_; rintro e_ w_ ⟨rfl, rfl⟩))
    rw [HF.out]
    go_wp2
    go_ret2
    exact ⟨rfl, (tr hb0 hb1 (by simp)).alloc (by have := hb1.size; simp at this; omega) _⟩
end Go.Proofs.YtmedjedmeggbpaaDoor
