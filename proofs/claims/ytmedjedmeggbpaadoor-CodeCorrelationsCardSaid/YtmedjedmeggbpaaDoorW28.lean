/- Contracts: the ticks at which a chirp rises. -/
import Derived.Test.YtmedjedmeggbpaaDoorW26
import Derived.Test.YtmedjedmeggbpaaDoorApp
import Derived.Test.YtmedjedmeggbpaaDoorHold
namespace Go.Proofs.YtmedjedmeggbpaaDoor
open Go.RowKit
set_option maxRecDepth 100000

/-- The ticks below k at which a chirp rises. -/
def risesL (s n d : Int) : Nat → List Int
  | 0 => []
  | k + 1 => if 1 ≤ k ∧ freq s n d ((k : Int) - 1) < freq s n d k then risesL s n d k ++ [(k : Int)] else risesL s n d k
theorem risesL_le (s n d : Int) (k : Nat) : (risesL s n d k).length ≤ k := by
  induction k with
  | zero => simp [risesL]
  | succ k ih =>
    simp only [risesL]
    split
    · simp; omega
    · omega
theorem risesL_one (s n d : Int) : risesL s n d 1 = [] := by simp [risesL]
theorem risesL_cap (s n d : Int) (count k : Nat) (h1 : 1 ≤ k) (h2 : count ≤ k) (h3 : k ≤ max count 1) : risesL s n d k = risesL s n d count := by
  rcases Nat.lt_or_ge count 1 with h | h
  · obtain rfl : k = 1 := by omega
    obtain rfl : count = 0 := by omega
    simp [risesL]
  · obtain rfl : k = count := by omega
    rfl

theorem below_own {w w' : World} {B : Nat} {row : Option Nat} (hg : w.grownBy w' row) (hB : B ≤ w.heap.size) (hr : ∀ k, row = some k → B ≤ k) : Below B w w' := (Below.refl _ _).grown hg hB hr

theorem risesOf_c (s n d count : Int) (w : World) :
    Calls Tryd.prog 45 #[.agg #[.int .i64 s, .int .i64 n, .int .i64 d], .int .i64 count] w fun r w' =>
      ((chirpNE s n d count 0 64 ≠ 0 ∧ r = .returned (.tuple #[.slice none 0 0, .int .i64 (chirpNE s n d count 0 64)])) ∨
        (chirpNE s n d count 0 64 = 0 ∧ ∃ A c, r = .returned (.tuple #[.slice A (risesL s n d count.toNat).length c, .int .i64 0]) ∧ RdT w' 3 A (ints (risesL s n d count.toNat)))) ∧ Below w.heap.size w w' := by
  obtain ⟨i0, hi, iz0, iz1, iz2⟩ := info_parts Tryd.info3
  by_cases he : chirpNE s n d count 0 64 = 0
  · have e1 : (chirpNE s n d count 0 64 != 0) = false := by simpa using he
    obtain ⟨g0, g1, g2⟩ := chirpNE_zero he
    obtain ⟨count, rfl⟩ : ∃ k : Nat, count = (k : Int) := ⟨count.toNat, by omega⟩
    rw [Int.toNat_natCast]
    have HE := hide he
    have HC := hide g0
    obtain ⟨q1, q2, q3, q4, q5, q6⟩ := chirpE_zero g0
    clear he g0
    have e2 : (firstE [chirpE s n d, errIf (outB count 0 64) 2] != 0) = false := e1
    clear e1
    go_enter Tryd.func45, Tryd.ntmps45
    go_wp2_with (first
      | (go_at_call 48; refine (checkChirp_c _ _ _ _).mono ?_; rintro e w1 ⟨rfl, hb1⟩)
      | (go_at_call 93; refine (errorIf_c _ _ _).mono ?_; rintro e_ w_ ⟨rfl, rfl⟩) | (go_at_call 94; refine (outside_c _ _ _ _).mono ?_; rintro e_ w_ ⟨rfl, rfl⟩) | (go_at_call 92; refine (firstError_2 _ _ _).mono ?_; rintro e_ w_ ⟨rfl, rfl⟩))
    have hX : Blk (w.alloc (.cells #[.int .i64 s, .int .i64 n, .int .i64 d] 64)) w.heap.size 64 [.int .i64 s, .int .i64 n, .int .i64 d] := Blk.new w _ [_, _, _]
    have hX1 := hX.bel hb1
    obtain ⟨V, hV⟩ : ∃ V, w1.alloc (.cells #[.int .i64 (chirpE s n d), .int .i64 (errIf (outB count 0 64) 2)] 25) = V := ⟨_, rfl⟩
    rw [hV]
    have hb1V : Below w1.heap.size w1 V := by rw [← hV]; exact (Below.refl _ _).alloc (Nat.le_refl _) _
    have hXV := hX1.bel hb1V
    have hwV : Below w.heap.size w V := tr (tr ((Below.refl _ _).alloc (Nat.le_refl _) _) hb1 (by simp)) hb1V (by have := hb1.size; simp at this; omega)
    clear hV hb1 hb1V hX hX1
    have hzV := hXV.lt
    go_loopw [7, 8] (fun v i wr => ∃ k : Nat, 1 ≤ k ∧ k ≤ max count 1 ∧ i = .int .i64 k ∧ Below V.heap.size V wr ∧ wr.ownsRow V.heap.size 3 1 v (risesL s n d k).length (ints (risesL s n d k))) (fun _ i _ => count - (intOf i).toNat)
    case atStart => exact ⟨1, Nat.le_refl _, by omega, rfl, Below.refl _ _, by rw [risesL_one]; exact World.ownsRow_nil _ _ _ _⟩
    case round =>
      obtain ⟨k, hk1, hk2, rfl, hbr, hown⟩ := hrel
      by_cases hlt : k < count
      · have hXr := hXV.below hbr hzV
        have c0 := hXr.cell 0
        have c1 := hXr.cell 1
        have c2 := hXr.cell 2
        simp only [List.getElem?_cons_zero, List.getElem?_cons_succ] at c0 c1 c2
        have HS := hide (show wr.cell? ⟨w.heap.size, 0, none⟩ = some (.int .i64 s) ∧ wr.cell? ⟨w.heap.size, 1, none⟩ = some (.int .i64 n) ∧ wr.cell? ⟨w.heap.size, 2, none⟩ = some (.int .i64 d) ∧ Below wr.heap.size wr wr from ⟨c0, c1, c2, Below.refl _ _⟩)
        clear c0 c1 c2
        have hw1 : IntKind.i64.wrap ((k : Int) - 1) = (k : Int) - 1 := by simp (disch := omega) only [IntWalk.i64_in]
        have hF : Hid (risesL s n d (k + 1) = if 1 ≤ k ∧ freq s n d ((k : Int) - 1) < freq s n d k then risesL s n d k ++ [(k : Int)] else risesL s n d k) := rfl
        have hle := risesL_le s n d k
        by_cases hgt : freq s n d ((k : Int) - 1) < freq s n d k
        · have hF2 : Hid (risesL s n d (k + 1) = risesL s n d k ++ [(k : Int)]) := by have := hF.out; rw [if_pos ⟨hk1, hgt⟩] at this; exact this
          generalize hfk : freq s n d (k : Int) = fk at hgt
          generalize hfk1 : freq s n d ((k : Int) - 1) = fk1 at hgt
          have HFK := hide hfk
          have HFK1 := hide hfk1
          clear hfk hfk1 hF
          generalize risesL s n d k = L at hown hle hF2
          go_upto_region 8 with fail
          go_region_held3 (fun w' => w'.cell? ⟨w.heap.size, 0, none⟩ = some (.int .i64 s) ∧ w'.cell? ⟨w.heap.size, 1, none⟩ = some (.int .i64 n) ∧ w'.cell? ⟨w.heap.size, 2, none⟩ = some (.int .i64 d) ∧ Below wr.heap.size wr w')
            (first | with_reducible exact hd3_drew HS.out | with_reducible exact H3.out | with_reducible exact H4.out)
            (first
              | (go_at_call 108; have _g := H3; refine (frequency_c s n d _ _ q1 q2 q3 q4 q5 q6 (by omega) (by omega)).mono ?_; rintro e w4 ⟨rfl, hb4⟩; have H4 := hide (hd3_bel H3.out hb4 H3.out.2.2.2.size))
              | (go_at_call 108; refine (frequency_c s n d _ _ q1 q2 q3 q4 q5 q6 (by omega) (by omega)).mono ?_; rintro e w3 ⟨rfl, hb3⟩; have H3 := hide (hd3_bel (hd3_drew HS.out) hb3 (by simp))))
          rw [HFK.out, HFK1.out]
          have hown4 := ownsRow_bel hown H4.out.2.2.2
          have hb4' : Below V.heap.size V w4 := tr hbr H4.out.2.2.2 hbr.size
          clear H3 hb3 hb4
          go_wp2_with (first | (at_builtin; refine wpList_append_own _ rfl _ _ 22 rfl V.heap.size 3 i0 (.int .i64 0) 1 8 Tryd.underlying22 hi iz0 iz1 iz2 rfl (by decide) _ _ _ rfl (hown4.alloc _) ⟨w4.heap.size, 0, none⟩ 1 1 [.int .i64 (k : Int)] rfl rfl (cell_one_new _ _ _) (by simp [Value.oneCell']) (by unfold maxLen; omega) (by omega) (by have := hb4'.size; simp; omega) ?_; intro v' w5 hown5 hg5 _))
          have hb5 : Below V.heap.size V w5 := (hb4'.alloc hb4'.size _).grown hg5 (by have := hb4'.size; simp; omega) (fun j hj => (hown4.lt j hj).1)
          go_roundw
          case rel => exact ⟨k + 1, by omega, by omega, by go_num, hb5, by rw [hF2.out, List.length_append, ints_append]; exact hown5⟩
          case measure => simp [intOf]; omega
        · have hF2 : Hid (risesL s n d (k + 1) = risesL s n d k) := by have := hF.out; rw [if_neg (fun h => hgt h.2)] at this; exact this
          have hng : freq s n d k ≤ freq s n d ((k : Int) - 1) := by omega
          clear hgt
          generalize hfk : freq s n d (k : Int) = fk at hng
          generalize hfk1 : freq s n d ((k : Int) - 1) = fk1 at hng
          have HFK := hide hfk
          have HFK1 := hide hfk1
          clear hfk hfk1 hF
          generalize risesL s n d k = L at hown hle hF2
          go_upto_region 8 with fail
          go_region_held3 (fun w' => w'.cell? ⟨w.heap.size, 0, none⟩ = some (.int .i64 s) ∧ w'.cell? ⟨w.heap.size, 1, none⟩ = some (.int .i64 n) ∧ w'.cell? ⟨w.heap.size, 2, none⟩ = some (.int .i64 d) ∧ Below wr.heap.size wr w')
            (first | with_reducible exact hd3_drew HS.out | with_reducible exact H3.out | with_reducible exact H4.out)
            (first
              | (go_at_call 108; have _g := H3; refine (frequency_c s n d _ _ q1 q2 q3 q4 q5 q6 (by omega) (by omega)).mono ?_; rintro e w4 ⟨rfl, hb4⟩; have H4 := hide (hd3_bel H3.out hb4 H3.out.2.2.2.size))
              | (go_at_call 108; refine (frequency_c s n d _ _ q1 q2 q3 q4 q5 q6 (by omega) (by omega)).mono ?_; rintro e w3 ⟨rfl, hb3⟩; have H3 := hide (hd3_bel (hd3_drew HS.out) hb3 (by simp))))
          rw [HFK.out, HFK1.out]
          have hown4 := ownsRow_bel hown H4.out.2.2.2
          have hb4' : Below V.heap.size V w4 := tr hbr H4.out.2.2.2 hbr.size
          clear H3 hb3 hb4
          go_wp2
          go_roundw
          case rel => exact ⟨k + 1, by omega, by omega, by go_num, hb4', by rw [hF2.out]; exact hown4⟩
          case measure => simp [intOf]; omega
      · have hcap := hide (risesL_cap s n d count k hk1 (by omega) hk2)
        obtain ⟨A, c, rfl⟩ := ownsRow_slice hown
        go_wp2
        go_ret2
        refine ⟨.inr ⟨HE.out, A, c, by rw [← hcap.out]; rfl, ?_⟩, tr hwV hbr hwV.size⟩
        rw [← hcap.out]
        exact RdT.of_own hown
  · have e1 : (chirpNE s n d count 0 64 != 0) = true := by simpa using he
    have HE := hide he
    clear he
    have e2 : (firstE [chirpE s n d, errIf (outB count 0 64) 2] != 0) = true := e1
    clear e1
    go_enter Tryd.func45, Tryd.ntmps45
    go_wp2_with (first
      | (go_at_call 48; refine (checkChirp_c _ _ _ _).mono ?_; rintro e w1 ⟨rfl, hb1⟩)
      | (go_at_call 93; refine (errorIf_c _ _ _).mono ?_; rintro e_ w_ ⟨rfl, rfl⟩) | (go_at_call 94; refine (outside_c _ _ _ _).mono ?_; rintro e_ w_ ⟨rfl, rfl⟩) | (go_at_call 92; refine (firstError_2 _ _ _).mono ?_; rintro e_ w_ ⟨rfl, rfl⟩))
    go_ret2
    exact ⟨.inl ⟨HE.out, rfl⟩, (tr ((Below.refl _ _).alloc (Nat.le_refl _) _) hb1 (by simp)).alloc (by have := hb1.size; simp at this; omega) _⟩
end Go.Proofs.YtmedjedmeggbpaaDoor
