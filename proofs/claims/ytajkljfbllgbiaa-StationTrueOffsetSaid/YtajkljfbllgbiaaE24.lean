/- The law of the true offset: the walk. -/
import Derived.Test.YtajkljfbllgbiaaE23
import Derived.BigRegion
set_option linter.unusedSimpArgs false
set_option linter.unusedVariables false
set_option linter.unusedSimpArgs false
set_option linter.unusedVariables false
namespace Go.Proofs.Ytajkljfbllgbiaa
open Go.RowKit
set_option maxRecDepth 100000

def exAt (off ch : Int) (Aa Bb Hh : List Int) (j : Nat) : PT := exOf off ch (Aa.getD j 0) (Bb.getD j 0) (Hh.getD j 0)
def exK (off ch : Int) (Aa Bb Hh : List Int) (k : Nat) : List PT := (List.range k).map (exAt off ch Aa Bb Hh)
theorem exK_succ (off ch : Int) (Aa Bb Hh : List Int) (k : Nat) : exK off ch Aa Bb Hh (k + 1) = exK off ch Aa Bb Hh k ++ [exAt off ch Aa Bb Hh k] := by simp [exK, List.range_succ]
theorem exK_length (off ch : Int) (Aa Bb Hh : List Int) (k : Nat) : (exK off ch Aa Bb Hh k).length = k := by simp [exK]
/-- What was asked of each of the first k exchanges. -/
structure GoodAt (off ch : Int) (Aa Bb Hh : List Int) (j : Nat) : Prop where
  a : 0 ≤ Aa.getD j 0 ∧ Aa.getD j 0 ≤ 1000
  b : 0 ≤ Bb.getD j 0 ∧ Bb.getD j 0 ≤ 10000
  h : 0 ≤ Hh.getD j 0 ∧ Hh.getD j 0 ≤ 10000
  e : exE (exAt off ch Aa Bb Hh j) = 0

set_option maxHeartbeats 4000000 in
theorem trueOff_good (off ch : Int) (A1 A2 A3 : Option Addr) (n z1 z2 z3 : Nat) (Aa Bb Hh : List Int) (D T : Int) (w : World) (hA : Rd w A1 (ints Aa)) (hB : Rd w A2 (ints Bb)) (hH : Rd w A3 (ints Hh)) (nA : Aa.length = n) (nB : Bb.length = n) (nH : Hh.length = n) (hq : Asked off ch n n n D T) :
    Calls Try.prog 5 #[.agg #[.int .i64 off, .int .i64 ch, .slice A1 n z1, .slice A2 n z2, .slice A3 n z3], .int .i64 D, .int .i64 T] w fun r w' => r = .returned (.bool true) ∧ Below w.heap.size w w' := by
  obtain ⟨i0, hi, iz0, iz1, iz2⟩ := info_parts Try.infoX
  obtain ⟨q0, q1, _, _, o1, o2, o3, o4⟩ := hq
  have hD := outB_false.1 o1
  have hc := outB_false.1 o2
  have ho := outB_false.1 o3
  have hT := outB_false.1 o4
  have hX0 := Blk.new w 49 [.int .i64 off, .int .i64 ch, .slice A1 n z1, .slice A2 n z2, .slice A3 n z3]
  have hB0 := alloc_bel w (.cells #[.int .i64 off, .int .i64 ch, .slice A1 n z1, .slice A2 n z2, .slice A3 n z3] 49)
  have hA0 := hA.bel hB0
  have hB00 := hB.bel hB0
  have hH0 := hH.bel hB0
  have e0 : ((n : Int) == 0) = false := by simp; omega
  have e1 : ¬ (20 : Int) < (n : Int) := by omega
  have e2 : ((n : Int) != (n : Int)) = false := by simp
  clear hA hB hH
  go_enter Try.func5, Try.ntmps5
  go_upto_region 5 with (first
    | (go_at_call 9; refine (awake_c _).mono ?_; rintro e_ w1 ⟨rfl, hb1⟩; have hX1 := hX0.bel hb1; have c0 := hX1.cell 0; have c1 := hX1.cell 1; have c2 := hX1.cell 2; have c3 := hX1.cell 3; have c4 := hX1.cell 4; simp only [List.getElem?_cons_zero, List.getElem?_cons_succ] at c0 c1 c2 c3 c4; have hz1 := hX1.lt)
    | (go_at_call 23; refine (within_c _ _ _ _).mono ?_; rintro e_ w_ ⟨rfl, rfl⟩))
  have hB1 := bel_tr hB0 (by simp) hb1
  have hA1 := hA0.bel hb1
  have hB11 := hB00.bel hb1
  have hH1 := hH0.bel hb1
  clear e0 e1 e2 o1 o2 o3 o4 c0 c1 c2 c3 c4 hX0 hB0 hA0 hB00 hH0 hb1
  go_wp2
  go_loopw [7, 8] (fun v x wr => ∃ k : Nat, k ≤ n ∧ x = .int .i64 k ∧ Below w1.heap.size w1 wr ∧ wr.ownsRow w1.heap.size 33 3 v k (ps (exK off ch Aa Bb Hh k)) ∧ Hid (∀ j, j < k → GoodAt off ch Aa Bb Hh j)) (fun _ x _ => n - (intOf x).toNat)
  case atStart => exact ⟨0, Nat.zero_le _, rfl, Below.refl _ _, World.ownsRow_nil _ _ _ _, fun _ h => by omega⟩
  case round =>
    obtain ⟨k, hk, rfl, hbr, hown, h0⟩ := hrel
    have hXr := hX1.bel hbr
    have hsr := hbr.size
    have hBr := bel_tr hB1 hB1.size hbr
    have c0 := hXr.cell 0; have c1 := hXr.cell 1; have c2 := hXr.cell 2; have c3 := hXr.cell 3; have c4 := hXr.cell 4; simp only [List.getElem?_cons_zero, List.getElem?_cons_succ] at c0 c1 c2 c3 c4
    have hzr := hXr.lt
    by_cases hlt : k < n
    · obtain ⟨g1, f1, e1', hg1, x1⟩ := (hA1.bel hbr).int_at (show k < Aa.length by omega)
      obtain ⟨g2, f2, e2', hg2, x2⟩ := (hB11.bel hbr).int_at (show k < Bb.length by omega)
      obtain ⟨g3, f3, e3', hg3, x3⟩ := (hH1.bel hbr).int_at (show k < Hh.length by omega)
      subst e1' e2' e3'
      have HG : Hid (0 ≤ Aa.getD k 0 ∧ Aa.getD k 0 ≤ 1000 → 0 ≤ Bb.getD k 0 ∧ Bb.getD k 0 ≤ 10000 → 0 ≤ Hh.getD k 0 ∧ Hh.getD k 0 ≤ 10000 → exE (exAt off ch Aa Bb Hh k) = 0 → ∀ j, j < k + 1 → GoodAt off ch Aa Bb Hh j) := fun y1 y2 y3 y4 j hj => by
        by_cases e : j = k
        · subst e; exact ⟨y1, y2, y3, y4⟩
        · exact h0.out j (by omega)
      have HEX : Hid (exAt off ch Aa Bb Hh k = exOf off ch (Aa.getD k 0) (Bb.getD k 0) (Hh.getD k 0)) := rfl
      have HSU := hide (exK_succ off ch Aa Bb Hh k)
      generalize exAt off ch Aa Bb Hh k = X at HG HEX HSU
      rw [← getI (by omega)] at x1 x2 x3
      generalize Aa.getD k 0 = a at x1 HG HEX
      generalize Bb.getD k 0 = bf at x2 HG HEX
      generalize Hh.getD k 0 = bh at x3 HG HEX
      have i1 : (k : Int) < (n : Int) := by omega
      cases p1 : outB a 0 1000
      · cases p2 : outB bf 0 10000
        · cases p3 : outB bh 0 10000
          · have ha := outB_false.1 p1
            have hbf := outB_false.1 p2
            have hbh := outB_false.1 p3
            go_upto_region 12 with (first | (go_at_call 23; refine (within_c _ _ _ _).mono ?_; rintro e_ w_ ⟨rfl, rfl⟩))
            have hca : -1000000 ≤ ch * a ∧ ch * a ≤ 1000000 := by
              have h1 := mul_abs (c := ch) (d := a)
              have h2 := mul_abs (c := -ch) (d := a)
              rw [show max (-ch) (- -ch) = max ch (-ch) by omega, Int.neg_mul] at h2
              have h3 := mul_bd (a := max ch (-ch)) (b := max a (-a)) (A := 1000) (B := 1000) (by omega) (by omega) (by omega) (by omega)
              omega
            obtain ⟨s, hs⟩ : ∃ s, max 0 (1000 * a - bf) = s := ⟨_, rfl⟩
            have hs0 : 0 ≤ s ∧ s ≤ 1000000 := by omega
            have hmx : (if bf < 1000 * a then 1000 * a - bf else 0) = s := by omega
            have HEX2 : Hid (X = (s, 1000 * a + off + ch * a, 1000 * a + bh)) := by show _ = _; rw [HEX.out, exOf, hs]
            have HG2 := hide (HG.out ha hbf hbh)
            clear hs HEX HG p1 p2 p3
            obtain ⟨ca, hcae⟩ : ∃ ca, ch * a = ca := ⟨_, rfl⟩
            rw [hcae] at hca HEX2
            have hmx2 : (if 0 < 1000 * a - bf then 1000 * a - bf else 0) = s := by rw [← hmx]; split <;> split <;> omega
            have r1 : IntKind.i64.wrap (1000 * a - bf) = 1000 * a - bf := by simp (disch := omega) only [IntWalk.i64_in]
            have r2 : IntKind.i64.wrap ca = ca := by simp (disch := omega) only [IntWalk.i64_in]
            have r3 : IntKind.i64.wrap (1000 * a + off) = 1000 * a + off := by simp (disch := omega) only [IntWalk.i64_in]
            have r4 : IntKind.i64.wrap (1000 * a + off + ca) = 1000 * a + off + ca := by simp (disch := omega) only [IntWalk.i64_in]
            have r5 : IntKind.i64.wrap (1000 * a + bh) = 1000 * a + bh := by simp (disch := omega) only [IntWalk.i64_in]
            go_cut [10] from 110 to 138 (fun t10 wx => ∃ g : Nat, t10 = .pointer (some ⟨g, 0, none⟩) ∧ Blk wx g 33 [.int .i64 s, .int .i64 (1000 * a + off + ca), .int .i64 (1000 * a + bh)] ∧ Below wr.heap.size wr wx)
            case first =>
              refine wp_region_held (S := fun w' => (∀ b o, b < wr.heap.size → w'.cell? ⟨b, o, none⟩ = wr.cell? ⟨b, o, none⟩) ∧ Below wr.heap.size wr w') (by kernel_rfl) ?_
              have hSd : (∀ b o, b < wr.heap.size → wr.drew.cell? ⟨b, o, none⟩ = wr.cell? ⟨b, o, none⟩) ∧ Below wr.heap.size wr wr.drew := kp (Below.refl _ _).drew
              change wpAnyH _ _ _ _ _ _ _ _ wr.drew
              have hbA : Below wr.heap.size wr (wr.alloc (.cells #[.int .i64 0, .int .i64 0, .int .i64 0] 33)).drew := (alloc_bel _ _).drew
              have hGA : Blk (wr.alloc (.cells #[.int .i64 0, .int .i64 0, .int .i64 0] 33)).drew wr.heap.size 33 [.int .i64 0, .int .i64 0, .int .i64 0] := Blk.new wr _ [_, _, _]
              have hfin : ∀ WE, (WE = (wr.alloc (.cells #[.int .i64 s, .int .i64 (1000 * a + off + ca), .int .i64 (1000 * a + bh)] 33)).drew ∨ WE = ((((wr.alloc (.cells #[.int .i64 0, .int .i64 0, .int .i64 0] 33)).drew.setCell ⟨wr.heap.size, 0, none⟩ (.int .i64 s)).setCell ⟨wr.heap.size, 1, none⟩ (.int .i64 (1000 * a + off + ca))).setCell ⟨wr.heap.size, 2, none⟩ (.int .i64 (1000 * a + bh)))) → Blk WE wr.heap.size 33 [.int .i64 s, .int .i64 (1000 * a + off + ca), .int .i64 (1000 * a + bh)] ∧ Below wr.heap.size wr WE := by
                rintro WE (rfl | rfl)
                · exact ⟨Blk.new wr _ [_, _, _], (alloc_bel _ _).drew⟩
                · exact ⟨((hGA.set_ 0 _).set_ 1 _).set_ 2 _, ((hbA.setCell (Nat.le_refl _) _).setCell (Nat.le_refl _) _).setCell (Nat.le_refl _) _⟩
              have g0 := hGA.cell 0; have g1 := hGA.cell 1; have g2 := hGA.cell 2; simp only [List.getElem?_cons_zero, List.getElem?_cons_succ] at g0 g1 g2
              have d0 := hGA.frozen 0
              have d1 := hGA.frozen 1
              have d2 := hGA.frozen 2
              have dl := hGA.lt
              clear hGA
              refine wpAnyH_take (i := 0) (v := ?_) rfl (by kernel_rfl) (by kernel_rfl) (by kernel_rfl) (fun _ _ _ h => h) (Or.inl ⟨by kernel_rfl, ?_⟩) (by assumption) ?_
              rotate_left 1
              · (intro w hSw; obtain ⟨hk1, hk2⟩ := hSw; go_simp <;> with_reducible rfl)
              simp only [Act.put, List.getElem_toArray, List.getElem_cons_zero, List.setIfInBounds_toArray, List.set_cons_zero, List.set_cons_succ]
              refine wpAnyH_take (i := 1) (v := ?_) rfl (by kernel_rfl) (by kernel_rfl) (by kernel_rfl) (fun _ _ _ h => h) (Or.inl ⟨by kernel_rfl, ?_⟩) (by assumption) ?_
              rotate_left 1
              · (intro w hSw; obtain ⟨hk1, hk2⟩ := hSw; go_simp <;> with_reducible rfl)
              simp only [Act.put, List.getElem_toArray, List.getElem_cons_zero, List.getElem_cons_succ, List.setIfInBounds_toArray, List.set_cons_zero, List.set_cons_succ]
              refine wpAnyH_take (i := 2) (v := ?_) rfl (by kernel_rfl) (by kernel_rfl) (by kernel_rfl) (fun _ _ _ h => h) (Or.inl ⟨by kernel_rfl, ?_⟩) (by assumption) ?_
              rotate_left 1
              · (intro w hSw; obtain ⟨hk1, hk2⟩ := hSw; go_simp <;> with_reducible rfl)
              simp only [Act.put, List.getElem_toArray, List.getElem_cons_zero, List.getElem_cons_succ, List.setIfInBounds_toArray, List.set_cons_zero, List.set_cons_succ]
              refine wpAnyH_take (i := 3) (v := ?_) rfl (by kernel_rfl) (by kernel_rfl) (by kernel_rfl) (fun _ _ _ h => h) (Or.inl ⟨by kernel_rfl, ?_⟩) (by assumption) ?_
              rotate_left 1
              · (intro w hSw; obtain ⟨hk1, hk2⟩ := hSw; go_simp <;> with_reducible rfl)
              simp only [Act.put, List.getElem_toArray, List.getElem_cons_zero, List.getElem_cons_succ, List.setIfInBounds_toArray, List.set_cons_zero, List.set_cons_succ]
              refine wpAnyH_take (i := 4) (v := ?_) rfl (by kernel_rfl) (by kernel_rfl) (by kernel_rfl) (fun _ _ _ h => h) (Or.inl ⟨by kernel_rfl, ?_⟩) (by assumption) ?_
              rotate_left 1
              · (intro w hSw; obtain ⟨hk1, hk2⟩ := hSw; go_simp <;> with_reducible rfl)
              simp only [Act.put, List.getElem_toArray, List.getElem_cons_zero, List.getElem_cons_succ, List.setIfInBounds_toArray, List.set_cons_zero, List.set_cons_succ]
              refine wpAnyH_take (i := 5) (v := ?_) rfl (by kernel_rfl) (by kernel_rfl) (by kernel_rfl) (fun _ _ _ h => h) (Or.inl ⟨by kernel_rfl, ?_⟩) (by assumption) ?_
              rotate_left 1
              · (intro w hSw; obtain ⟨hk1, hk2⟩ := hSw; go_simp <;> with_reducible rfl)
              simp only [Act.put, List.getElem_toArray, List.getElem_cons_zero, List.getElem_cons_succ, List.setIfInBounds_toArray, List.set_cons_zero, List.set_cons_succ]
              refine wpAnyH_take (i := 6) (v := ?_) rfl (by kernel_rfl) (by kernel_rfl) (by kernel_rfl) (fun _ _ _ h => h) (Or.inl ⟨by kernel_rfl, ?_⟩) (by assumption) ?_
              rotate_left 1
              · (intro w hSw; obtain ⟨hk1, hk2⟩ := hSw; go_simp <;> with_reducible rfl)
              simp only [Act.put, List.getElem_toArray, List.getElem_cons_zero, List.getElem_cons_succ, List.setIfInBounds_toArray, List.set_cons_zero, List.set_cons_succ]
              refine wpAnyH_take (i := 8) (v := ?_) rfl (by kernel_rfl) (by kernel_rfl) (by kernel_rfl) (fun _ _ _ h => h) (Or.inl ⟨by kernel_rfl, ?_⟩) (by assumption) ?_
              rotate_left 1
              · (intro w hSw; obtain ⟨hk1, hk2⟩ := hSw; go_simp <;> with_reducible rfl)
              simp only [Act.put, List.getElem_toArray, List.getElem_cons_zero, List.getElem_cons_succ, List.setIfInBounds_toArray, List.set_cons_zero, List.set_cons_succ]
              refine wpAnyH_take (i := 9) (v := ?_) rfl (by kernel_rfl) (by kernel_rfl) (by kernel_rfl) (fun _ _ _ h => h) (Or.inl ⟨by kernel_rfl, ?_⟩) (by assumption) ?_
              rotate_left 1
              · (intro w hSw; obtain ⟨hk1, hk2⟩ := hSw; go_simp <;> with_reducible rfl)
              simp only [Act.put, List.getElem_toArray, List.getElem_cons_zero, List.getElem_cons_succ, List.setIfInBounds_toArray, List.set_cons_zero, List.set_cons_succ]
              refine wpAnyH_take (i := 10) (v := ?_) rfl (by kernel_rfl) (by kernel_rfl) (by kernel_rfl) (fun _ _ _ h => h) (Or.inl ⟨by kernel_rfl, ?_⟩) (by assumption) ?_
              rotate_left 1
              · (intro w hSw; obtain ⟨hk1, hk2⟩ := hSw; go_simp <;> with_reducible rfl)
              simp only [Act.put, List.getElem_toArray, List.getElem_cons_zero, List.getElem_cons_succ, List.setIfInBounds_toArray, List.set_cons_zero, List.set_cons_succ]
              refine wpAnyH_take (i := 11) (v := ?_) rfl (by kernel_rfl) (by kernel_rfl) (by kernel_rfl) (fun _ _ _ h => h) (Or.inl ⟨by kernel_rfl, ?_⟩) (by assumption) ?_
              rotate_left 1
              · (intro w hSw; obtain ⟨hk1, hk2⟩ := hSw; go_simp <;> with_reducible rfl)
              simp only [Act.put, List.getElem_toArray, List.getElem_cons_zero, List.getElem_cons_succ, List.setIfInBounds_toArray, List.set_cons_zero, List.set_cons_succ]
              refine wpAnyH_take (i := 12) (v := ?_) rfl (by kernel_rfl) (by kernel_rfl) (by kernel_rfl) (fun _ _ _ h => h) (Or.inl ⟨by kernel_rfl, ?_⟩) (by assumption) ?_
              rotate_left 1
              · (intro w hSw; obtain ⟨hk1, hk2⟩ := hSw; go_simp <;> with_reducible rfl)
              simp only [Act.put, List.getElem_toArray, List.getElem_cons_zero, List.getElem_cons_succ, List.setIfInBounds_toArray, List.set_cons_zero, List.set_cons_succ]
              refine wpAnyH_take (i := 13) (v := ?_) rfl (by kernel_rfl) (by kernel_rfl) (by kernel_rfl) (fun _ _ _ h => h) (Or.inl ⟨by kernel_rfl, ?_⟩) (by assumption) ?_
              rotate_left 1
              · (intro w hSw; obtain ⟨hk1, hk2⟩ := hSw; go_simp <;> with_reducible rfl)
              simp only [Act.put, List.getElem_toArray, List.getElem_cons_zero, List.getElem_cons_succ, List.setIfInBounds_toArray, List.set_cons_zero, List.set_cons_succ]
              refine wpAnyH_take (i := 14) (v := ?_) rfl (by kernel_rfl) (by kernel_rfl) (by kernel_rfl) (fun _ _ _ h => h) (Or.inl ⟨by kernel_rfl, ?_⟩) (by assumption) ?_
              rotate_left 1
              · (intro w hSw; obtain ⟨hk1, hk2⟩ := hSw; go_simp <;> with_reducible rfl)
              simp only [Act.put, List.getElem_toArray, List.getElem_cons_zero, List.getElem_cons_succ, List.setIfInBounds_toArray, List.set_cons_zero, List.set_cons_succ]
              refine wpAnyH_take (i := 15) (v := ?_) rfl (by kernel_rfl) (by kernel_rfl) (by kernel_rfl) (fun _ _ _ h => h) (Or.inl ⟨by kernel_rfl, ?_⟩) (by assumption) ?_
              rotate_left 1
              · (intro w hSw; obtain ⟨hk1, hk2⟩ := hSw; go_simp <;> with_reducible rfl)
              simp only [Act.put, List.getElem_toArray, List.getElem_cons_zero, List.getElem_cons_succ, List.setIfInBounds_toArray, List.set_cons_zero, List.set_cons_succ]
              refine wpAnyH_take (i := 16) (v := ?_) rfl (by kernel_rfl) (by kernel_rfl) (by kernel_rfl) (fun _ _ _ h => h) (Or.inl ⟨by kernel_rfl, ?_⟩) (by assumption) ?_
              rotate_left 1
              · (intro w hSw; obtain ⟨hk1, hk2⟩ := hSw; go_simp <;> with_reducible rfl)
              simp only [Act.put, List.getElem_toArray, List.getElem_cons_zero, List.getElem_cons_succ, List.setIfInBounds_toArray, List.set_cons_zero, List.set_cons_succ]
              refine wpAnyH_take (i := 17) (v := ?_) rfl (by kernel_rfl) (by kernel_rfl) (by kernel_rfl) (fun _ _ _ h => h) (Or.inl ⟨by kernel_rfl, ?_⟩) (by assumption) ?_
              rotate_left 1
              · (intro w hSw; obtain ⟨hk1, hk2⟩ := hSw; go_simp <;> with_reducible rfl)
              simp only [Act.put, List.getElem_toArray, List.getElem_cons_zero, List.getElem_cons_succ, List.setIfInBounds_toArray, List.set_cons_zero, List.set_cons_succ]
              refine wpAnyH_take (i := 18) (v := ?_) rfl (by kernel_rfl) (by kernel_rfl) (by kernel_rfl) (fun _ _ _ h => h) (Or.inl ⟨by kernel_rfl, ?_⟩) (by assumption) ?_
              rotate_left 1
              · (intro w hSw; obtain ⟨hk1, hk2⟩ := hSw; go_simp <;> with_reducible rfl)
              simp only [Act.put, List.getElem_toArray, List.getElem_cons_zero, List.getElem_cons_succ, List.setIfInBounds_toArray, List.set_cons_zero, List.set_cons_succ]
              refine wpAnyH_take (i := 19) (v := ?_) rfl (by kernel_rfl) (by kernel_rfl) (by kernel_rfl) (fun _ _ _ h => h) (Or.inl ⟨by kernel_rfl, ?_⟩) (by assumption) ?_
              rotate_left 1
              · (intro w hSw; obtain ⟨hk1, hk2⟩ := hSw; go_simp <;> with_reducible rfl)
              simp only [Act.put, List.getElem_toArray, List.getElem_cons_zero, List.getElem_cons_succ, List.setIfInBounds_toArray, List.set_cons_zero, List.set_cons_succ]
              refine wpAnyH_take (i := 20) (v := ?_) rfl (by kernel_rfl) (by kernel_rfl) (by kernel_rfl) (fun _ _ _ h => h) (Or.inl ⟨by kernel_rfl, ?_⟩) (by assumption) ?_
              rotate_left 1
              · (intro w hSw; obtain ⟨hk1, hk2⟩ := hSw; go_simp <;> with_reducible rfl)
              simp only [Act.put, List.getElem_toArray, List.getElem_cons_zero, List.getElem_cons_succ, List.setIfInBounds_toArray, List.set_cons_zero, List.set_cons_succ]
              refine wpAnyH_take (i := 21) (v := ?_) rfl (by kernel_rfl) (by kernel_rfl) (by kernel_rfl) (fun _ _ _ h => h) (Or.inl ⟨by kernel_rfl, ?_⟩) (by assumption) ?_
              rotate_left 1
              · (intro w hSw; obtain ⟨hk1, hk2⟩ := hSw; go_simp <;> with_reducible rfl)
              simp only [Act.put, List.getElem_toArray, List.getElem_cons_zero, List.getElem_cons_succ, List.setIfInBounds_toArray, List.set_cons_zero, List.set_cons_succ]
              refine wpAnyH_take (i := 22) (v := ?_) rfl (by kernel_rfl) (by kernel_rfl) (by kernel_rfl) (fun _ _ _ h => h) (Or.inl ⟨by kernel_rfl, ?_⟩) (by assumption) ?_
              rotate_left 1
              · (intro w hSw; obtain ⟨hk1, hk2⟩ := hSw; go_simp <;> with_reducible rfl)
              simp only [Act.put, List.getElem_toArray, List.getElem_cons_zero, List.getElem_cons_succ, List.setIfInBounds_toArray, List.set_cons_zero, List.set_cons_succ]
              refine wpAnyH_take (i := 23) (v := ?_) rfl (by kernel_rfl) (by kernel_rfl) (by kernel_rfl) (fun _ _ _ h => h) (Or.inl ⟨by kernel_rfl, ?_⟩) (by assumption) ?_
              rotate_left 1
              · (intro w hSw; obtain ⟨hk1, hk2⟩ := hSw; go_simp <;> with_reducible rfl)
              simp only [Act.put, List.getElem_toArray, List.getElem_cons_zero, List.getElem_cons_succ, List.setIfInBounds_toArray, List.set_cons_zero, List.set_cons_succ]
              refine wpAnyH_take (i := 24) (v := ?_) rfl (by kernel_rfl) (by kernel_rfl) (by kernel_rfl) (fun _ _ _ h => h) (Or.inl ⟨by kernel_rfl, ?_⟩) (by assumption) ?_
              rotate_left 1
              · (intro w hSw; obtain ⟨hk1, hk2⟩ := hSw; go_simp <;> with_reducible rfl)
              simp only [Act.put, List.getElem_toArray, List.getElem_cons_zero, List.getElem_cons_succ, List.setIfInBounds_toArray, List.set_cons_zero, List.set_cons_succ]
              refine wpAnyH_take (i := 25) (v := ?_) rfl (by kernel_rfl) (by kernel_rfl) (by kernel_rfl) (fun _ _ _ h => h) (Or.inl ⟨by kernel_rfl, ?_⟩) (by assumption) ?_
              rotate_left 1
              · (intro w hSw; obtain ⟨hk1, hk2⟩ := hSw; go_simp <;> with_reducible rfl)
              simp only [Act.put, List.getElem_toArray, List.getElem_cons_zero, List.getElem_cons_succ, List.setIfInBounds_toArray, List.set_cons_zero, List.set_cons_succ]
              refine wpAnyH_take (i := 26) (v := ?_) rfl (by kernel_rfl) (by kernel_rfl) (by kernel_rfl) (fun _ _ _ h => h) (Or.inl ⟨by kernel_rfl, ?_⟩) (by assumption) ?_
              rotate_left 1
              · (intro w hSw; obtain ⟨hk1, hk2⟩ := hSw; go_simp <;> with_reducible rfl)
              simp only [Act.put, List.getElem_toArray, List.getElem_cons_zero, List.getElem_cons_succ, List.setIfInBounds_toArray, List.set_cons_zero, List.set_cons_succ]
              refine wpAnyH_take (i := 27) (v := ?_) rfl (by kernel_rfl) (by kernel_rfl) (by kernel_rfl) (fun _ _ _ h => h) (Or.inl ⟨by kernel_rfl, ?_⟩) (by assumption) ?_
              rotate_left 1
              · (intro w hSw; obtain ⟨hk1, hk2⟩ := hSw; go_simp <;> with_reducible rfl)
              simp only [Act.put, List.getElem_toArray, List.getElem_cons_zero, List.getElem_cons_succ, List.setIfInBounds_toArray, List.set_cons_zero, List.set_cons_succ]
              refine nextH2 (i := 7) (j := 29) (by kernel_rfl) rfl rfl (fun K hK => ?_) (fun K hK => ?_)
              · go_simp
                refine hK _ _ hSd ?_
                clear hK K
                refine wpAnyH_take (i := 28) (v := ?_) rfl (by kernel_rfl) (by kernel_rfl) (by kernel_rfl) (fun _ _ _ h => h) (Or.inl ⟨by kernel_rfl, ?_⟩) (by assumption) ?_
                rotate_left 1
                · (intro w hSw; obtain ⟨hk1, hk2⟩ := hSw; go_simp <;> with_reducible rfl)
                simp only [Act.put, List.getElem_toArray, List.getElem_cons_zero, List.getElem_cons_succ, List.setIfInBounds_toArray, List.set_cons_zero, List.set_cons_succ]
                refine nextH (i := 29) (by kernel_rfl) rfl (fun K hK => ?_)
                go_simp
                refine hK _ _ (kp hbA) ?_
                clear hK K
                refine nextH (i := 30) (by kernel_rfl) rfl (fun K hK => ?_)
                go_simp
                refine hK _ _ (kp (hfin _ (by first | exact .inl rfl | exact .inr rfl)).2) ?_
                clear hK K
                refine wpAnyH_done (by kernel_rfl) ?_ _
                go_wp2
                go_meet
                exact ⟨wr.heap.size, rfl, hfin _ (by first | exact .inl rfl | exact .inr rfl)⟩
              · go_simp
                refine hK _ _ (kp hbA) ?_
                clear hK K hSd
                have hSd := kp hbA
                refine nextH (i := 7) (by kernel_rfl) rfl (fun K hK => ?_)
                go_simp
                refine hK _ _ hSd ?_
                clear hK K
                refine wpAnyH_take (i := 28) (v := ?_) rfl (by kernel_rfl) (by kernel_rfl) (by kernel_rfl) (fun _ _ _ h => h) (Or.inl ⟨by kernel_rfl, ?_⟩) (by assumption) ?_
                rotate_left 1
                · (intro w hSw; obtain ⟨hk1, hk2⟩ := hSw; go_simp <;> with_reducible rfl)
                simp only [Act.put, List.getElem_toArray, List.getElem_cons_zero, List.getElem_cons_succ, List.setIfInBounds_toArray, List.set_cons_zero, List.set_cons_succ]
                refine nextH (i := 30) (by kernel_rfl) rfl (fun K hK => ?_)
                go_simp
                refine hK _ _ (kp (hfin _ (by first | exact .inl rfl | exact .inr rfl)).2) ?_
                clear hK K
                refine wpAnyH_done (by kernel_rfl) ?_ _
                go_wp2
                go_meet
                exact ⟨wr.heap.size, rfl, hfin _ (by first | exact .inl rfl | exact .inr rfl)⟩
            obtain ⟨g, rfl, hG, hBc⟩ := hcut
            obtain ⟨w4, rfl⟩ : ∃ w4 : World, w4 = wc := ⟨_, rfl⟩
            have hb4 : Below w1.heap.size w1 w4 := bel_tr hbr hsr hBc
            have hown4 := ownsRow_bel hown hBc
            have hsc := hBc.size
            have HER := hide (fun W => exchangeErr_c s (1000 * a + off + ca) (1000 * a + bh) W)
            rw [← HEX2.out] at HER
            have HPS : Hid (ps [X] = [.int .i64 s, .int .i64 (1000 * a + off + ca), .int .i64 (1000 * a + bh)]) := by show _ = _; rw [HEX2.out]; rfl
            clear r1 r2 r3 r4 r5 hmx hmx2 c0 c1 c2 c3 c4 x1 x2 x3 hown hXr HEX2 hcae hca
            generalize 1000 * a + off + ca = t' at *
            generalize 1000 * a + bh = r' at *
            have y0 := hG.cell 0; have y1 := hG.cell 1; have y2 := hG.cell 2; simp only [List.getElem?_cons_zero, List.getElem?_cons_succ] at y0 y1 y2
            have hzG := hG.lt
            have hB4 := bel_tr hB1 hB1.size hb4
            by_cases hx : exE X = 0
            · have HF := hide (HG2.out hx)
              rw [hx] at HER
              clear hx HG2
              go_wp2_with (first
                | (go_at_call 14; refine (HER.out _).mono ?_; rintro e_ w5 ⟨rfl, hb5⟩; have hG5 := hG.bel hb5; have z0 := hG5.cell 0; have z1 := hG5.cell 1; have z2 := hG5.cell 2; simp only [List.getElem?_cons_zero, List.getElem?_cons_succ] at z0 z1 z2; have hzG5 := hG5.lt)
                | (at_builtin; refine wpList_append_own _ rfl _ _ 22 rfl w1.heap.size 33 i0 _ 3 24 Try.underlying22 hi iz0 iz1 iz2 rfl (by decide) _ _ _ rfl ((ownsRow_bel hown4 hb5).alloc _) ⟨w5.heap.size, 0, none⟩ 1 1 [.int .i64 s, .int .i64 t', .int .i64 r'] rfl rfl (World.news_of_block (heap_alloc_new w5 _)) (by simp [Value.oneCell']) (by unfold maxLen; omega) (by omega) (by have := hb5.size; simp; omega) ?_; intro v' w8 hown8 hg8 _))
              have hb8 : Below w1.heap.size w1 w8 := (bel_alloc (bel_tr hb4 (by omega) hb5) (by have := hb5.size; omega) _).grown hg8 (by have := hb5.size; simp; omega) (fun j hj => by have := (hown4.lt j hj).1; omega)
              go_roundw
              case rel => exact ⟨k + 1, by omega, by go_num, hb8, by rw [HSU.out, ps_append, HPS.out]; exact hown8, HF⟩
              case measure => simp [intOf]; omega
            · have e1 : (exE X != 0) = true := by simpa using hx
              clear hx HG2
              go_wp2_with (first
                | (go_at_call 14; refine (HER.out _).mono ?_; rintro e_ w5 ⟨rfl, hb5⟩))
              go_ret
              exact ⟨rfl, bel_tr hB4 hB4.size hb5⟩
          · go_wp2_with (first | (go_at_call 23; refine (within_c _ _ _ _).mono ?_; rintro e_ w_ ⟨rfl, rfl⟩))
            go_ret
            exact ⟨rfl, hBr⟩
        · go_wp2_with (first | (go_at_call 23; refine (within_c _ _ _ _).mono ?_; rintro e_ w_ ⟨rfl, rfl⟩))
          go_ret
          exact ⟨rfl, hBr⟩
      · go_wp2_with (first | (go_at_call 23; refine (within_c _ _ _ _).mono ?_; rintro e_ w_ ⟨rfl, rfl⟩))
        go_ret
        exact ⟨rfl, hBr⟩
    · obtain rfl : k = n := by omega
      obtain ⟨LA, lc, rfl⟩ := ownsRow_slice hown
      have hLr := Rd.of_own hown
      have hLn := exK_length off ch Aa Bb Hh k
      have hGA : ∀ j, j < k → GoodAt off ch Aa Bb Hh j := h0.out
      have hEX : ∀ j (h : j < (exK off ch Aa Bb Hh k).length), (exK off ch Aa Bb Hh k)[j] = exAt off ch Aa Bb Hh j := fun j h => by simp [exK]
      have hOE : offE (exK off ch Aa Bb Hh k) D T = 0 := by
        have h1 : (firstBadFrom (fun _ x => exE x) 0 (exK off ch Aa Bb Hh k)).2 = 0 := exs_none fun j hj => by rw [hEX j hj]; exact (hGA j (by omega)).e
        have h2 : exsE (exK off ch Aa Bb Hh k) = 0 := by
          have a1 : ((k : Int) == 0) = false := by simp; omega
          have a2 : decide ((20 : Int) < (k : Int)) = false := by simp; omega
          unfold exsE
          rw [h1, hLn, a1, a2]; rfl
        have h3 : driftE D = 0 := by unfold driftE; rw [outB_false.2 hD]; rfl
        have h4 : tickE T = 0 := by unfold tickE; rw [outB_false.2 (by omega)]; rfl
        unfold offE
        rw [h2, h3, h4]; rfl
      have hmem : ∀ g ∈ offL (exK off ch Aa Bb Hh k) D T, ∃ j, j < k ∧ g = offV (exAt off ch Aa Bb Hh j) D T := fun g hg => by
        obtain ⟨x, hx, rfl⟩ := List.mem_map.1 hg
        obtain ⟨j, hj, rfl⟩ := List.getElem_of_mem hx
        exact ⟨j, by omega, by rw [hEX j hj]⟩
      have hne : offL (exK off ch Aa Bb Hh k) D T ≠ [] := fun e => by
        have := congrArg List.length e
        rw [offL_length, hLn] at this
        simp at this
        omega
      have hsz : ∀ g ∈ offL (exK off ch Aa Bb Hh k) D T, -1000000000000 ≤ g.1 ∧ g.1 ≤ 1000000000000 ∧ -1000000000000 ≤ g.2 ∧ g.2 ≤ 1000000000000 := fun g hg => by
        obtain ⟨j, hj, rfl⟩ := hmem g hg
        have := hGA j hj
        exact off_size ho this.a this.b this.h hD hc hT
      have hbds : -1000000000000 ≤ (comA (offL (exK off ch Aa Bb Hh k) D T)).1 ∧ (comA (offL (exK off ch Aa Bb Hh k) D T)).1 ≤ 1000000000000 ∧ (comA (offL (exK off ch Aa Bb Hh k) D T)).2 ≤ 1000000000000 := by
        obtain ⟨_, g, hg, e1⟩ := comA_lo hne
        obtain ⟨_, g2, hg2, e2⟩ := comA_hi hne
        have := hsz g hg
        have := hsz g2 hg2
        omega
      have hok : ¬ Slow ch Bb Hh k → (comA (offL (exK off ch Aa Bb Hh k) D T)).1 ≤ (comA (offL (exK off ch Aa Bb Hh k) D T)).2 ∧ (comA (offL (exK off ch Aa Bb Hh k) D T)).1 ≤ upD (1000 * off + ch * T) 1000 ∧ (1000 * off + ch * T) / 1000 ≤ (comA (offL (exK off ch Aa Bb Hh k) D T)).2 := fun hs => true_common hne fun g hg => by
        obtain ⟨j, hj, rfl⟩ := hmem g hg
        have h1 := hGA j hj
        refine true_in h1.a h1.b h1.h hD hc hT ?_
        rcases Int.lt_or_le (slowN ch (Bb.getD j 0) (Hh.getD j 0)) 1000 with h2 | h2
        · exact h2
        · exact absurd ⟨j, hj, h2⟩ hs
      have hAT : atR (exK off ch Aa Bb Hh k) D T = if (comA (offL (exK off ch Aa Bb Hh k) D T)).2 < (comA (offL (exK off ch Aa Bb Hh k) D T)).1 then ((0, 0), 13) else (comA (offL (exK off ch Aa Bb Hh k) D T), 0) := by unfold atR; rw [if_pos hOE]
      have hTR : trueR (exK off ch Aa Bb Hh k) D T = if (atR (exK off ch Aa Bb Hh k) D T).2 = 0 then ((T + (atR (exK off ch Aa Bb Hh k) D T).1.1, T + (atR (exK off ch Aa Bb Hh k) D T).1.2), 0) else ((0, 0), (atR (exK off ch Aa Bb Hh k) D T).2) := rfl
      have HCP := hide (fun W h => copyExchanges_c (exK off ch Aa Bb Hh k) LA lc W h (by omega))
      have HOA := hide (fun A' c' W h => offsetAt_c A' c' (exK off ch Aa Bb Hh k) D T W h (by omega))
      have HTA := hide (fun W h => trueAt_c LA lc (exK off ch Aa Bb Hh k) D T W h (by omega))
      rw [hLn] at HCP HOA HTA
      have HSL := hide (fun b (hb : b = true ↔ Slow ch Bb Hh k) W h1 h2 => slow_c off ch A1 A2 A3 k z1 z2 z3 Bb Hh b W h1 h2 nB nH (by omega) (by omega) (fun j hj => (hGA j hj).b) (fun j hj => (hGA j hj).h) hb)
      have hcT : -1000000000 ≤ ch * T ∧ ch * T ≤ 1000000000 := by
        have h1 := mul_abs (c := ch) (d := T)
        have h2 := mul_abs (c := -ch) (d := T)
        rw [show max (-ch) (- -ch) = max ch (-ch) by omega, Int.neg_mul] at h2
        have h3 := mul_bd (a := max ch (-ch)) (b := max T (-T)) (A := 1000) (B := 1000000) (by omega) (by omega) (by omega) (by omega)
        omega
      have HFL := hide (fun W => floor_c (1000 * off + ch * T) 1000 W (by omega) (by omega) (by omega) (by omega))
      have HCL := hide (fun W => ceil_c (1000 * off + ch * T) 1000 W (by omega) (by omega) (by omega) (by omega))
      generalize comA (offL (exK off ch Aa Bb Hh k) D T) = C at hbds hok hAT
      generalize atR (exK off ch Aa Bb Hh k) D T = at_ at HOA hAT hTR
      generalize trueR (exK off ch Aa Bb Hh k) D T = tr_ at HTA hTR
      generalize exK off ch Aa Bb Hh k = L at hLr HCP HOA HTA
      obtain ⟨C1, C2⟩ := C
      dsimp only at hbds hok hAT
      have hBr2 := hB11.bel hbr
      have hHr2 := hH1.bel hbr
      clear hown hGA hEX hOE hmem hne hsz h0 hLn hA1
      by_cases hs : Slow ch Bb Hh k
      · have HSL2 := hide (HSL.out true ⟨fun _ => hs, fun _ => rfl⟩)
        clear HSL hok hs
        by_cases hlo : C2 < C1
        · rw [if_pos hlo] at hAT
          subst hAT
          dsimp only at HOA
          clear hlo hTR
          go_wp2_with (first
            | (go_at_call 12; refine (HCP.out _ hLr).mono ?_; rintro e_ w2 ⟨⟨A', c', rfl, hx2⟩, hb2⟩)
            | (go_at_call 11; refine (HOA.out _ _ _ hx2).mono ?_; rintro e_ w3 ⟨rfl, hb3⟩; have hb4 := (tr hb2 hb3 hb2.size).trans ((alloc_bel w3 (.cells #[.int .i64 0, .int .i64 0] 26)).mono (by have := hb2.size; have := hb3.size; omega)); have hX4 := hXr.bel hb4; have hP4 := Blk.new w3 26 [.int .i64 0, .int .i64 0]; have x0 := hX4.cell 0; have x1 := hX4.cell 1; have x2 := hX4.cell 2; have x3 := hX4.cell 3; have x4 := hX4.cell 4; simp only [List.getElem?_cons_zero, List.getElem?_cons_succ] at x0 x1 x2 x3 x4; have hzx := hX4.lt; have p0 := hP4.cell 0; have p1 := hP4.cell 1; simp only [List.getElem?_cons_zero, List.getElem?_cons_succ] at p0 p1; have hzp := hP4.lt)
            | (go_at_call 24; refine (HSL2.out _ (hBr2.bel hb4) (hHr2.bel hb4)).mono ?_; rintro e_ w5 ⟨rfl, hb5⟩))
          go_ret
          exact ⟨rfl, bel_tr (bel_tr hBr hBr.size hb4) (by have := hBr.size; have := hb4.size; omega) hb5⟩
        · rw [if_neg hlo] at hAT
          subst hAT
          dsimp only at HOA
          have o1 : outB C1 (-1125899906842624) 1125899906842624 = false := outB_false.2 (by omega)
          have o2 : outB C2 C1 1125899906842624 = false := outB_false.2 (by omega)
          clear hlo hTR hbds
          go_wp2_with (first
            | (go_at_call 12; refine (HCP.out _ hLr).mono ?_; rintro e_ w2 ⟨⟨A', c', rfl, hx2⟩, hb2⟩)
            | (go_at_call 11; refine (HOA.out _ _ _ hx2).mono ?_; rintro e_ w3 ⟨rfl, hb3⟩; have hb4 := (tr hb2 hb3 hb2.size).trans ((alloc_bel w3 (.cells #[.int .i64 C1, .int .i64 C2] 26)).mono (by have := hb2.size; have := hb3.size; omega)); have hX4 := hXr.bel hb4; have hP4 := Blk.new w3 26 [.int .i64 C1, .int .i64 C2]; have x0 := hX4.cell 0; have x1 := hX4.cell 1; have x2 := hX4.cell 2; have x3 := hX4.cell 3; have x4 := hX4.cell 4; simp only [List.getElem?_cons_zero, List.getElem?_cons_succ] at x0 x1 x2 x3 x4; have hzx := hX4.lt; have p0 := hP4.cell 0; have p1 := hP4.cell 1; simp only [List.getElem?_cons_zero, List.getElem?_cons_succ] at p0 p1; have hzp := hP4.lt)
            | (go_at_call 23; refine (within_c _ _ _ _).mono ?_; rintro e_ w_ ⟨rfl, rfl⟩)
            | (go_at_call 24; refine (HSL2.out _ (hBr2.bel hb4) (hHr2.bel hb4)).mono ?_; rintro e_ w5 ⟨rfl, hb5⟩))
          go_ret
          exact ⟨rfl, bel_tr (bel_tr hBr hBr.size hb4) (by have := hBr.size; have := hb4.size; omega) hb5⟩
      · have HSL2 := hide (HSL.out false ⟨(fun h => by cases h), fun h => absurd h hs⟩)
        obtain ⟨h1, h2, h3⟩ := hok hs
        clear HSL hok hs
        rw [if_neg (by omega)] at hAT
        subst hAT
        rw [if_pos rfl] at hTR
        subst hTR
        dsimp only at HOA HTA
        have o1 : outB C1 (-1125899906842624) 1125899906842624 = false := outB_false.2 (by omega)
        have o2 : outB C2 C1 1125899906842624 = false := outB_false.2 (by omega)
        generalize upD (1000 * off + ch * T) 1000 = hi' at HCL h2
        generalize (1000 * off + ch * T) / 1000 = lo' at HFL h3
        have e1 : decide (C1 ≤ hi') = true := decide_eq_true h2
        have e2 : decide (lo' ≤ C2) = true := decide_eq_true h3
        have hC : -1000000000000 ≤ C2 := by omega
        go_upto_region 23 with (first
            | (go_at_call 12; refine (HCP.out _ hLr).mono ?_; rintro e_ w2 ⟨⟨A', c', rfl, hx2⟩, hb2⟩)
            | (go_at_call 11; refine (HOA.out _ _ _ hx2).mono ?_; rintro e_ w3 ⟨rfl, hb3⟩; have hb4 := (tr hb2 hb3 hb2.size).trans ((alloc_bel w3 (.cells #[.int .i64 C1, .int .i64 C2] 26)).mono (by have := hb2.size; have := hb3.size; omega)); have hX4 := hXr.bel hb4; have hP4 := Blk.new w3 26 [.int .i64 C1, .int .i64 C2]; have x0 := hX4.cell 0; have x1 := hX4.cell 1; have x2 := hX4.cell 2; have x3 := hX4.cell 3; have x4 := hX4.cell 4; simp only [List.getElem?_cons_zero, List.getElem?_cons_succ] at x0 x1 x2 x3 x4; have hzx := hX4.lt; have p0 := hP4.cell 0; have p1 := hP4.cell 1; simp only [List.getElem?_cons_zero, List.getElem?_cons_succ] at p0 p1; have hzp := hP4.lt)
            | (go_at_call 23; refine (within_c _ _ _ _).mono ?_; rintro e_ w_ ⟨rfl, rfl⟩)
            | (go_at_call 24; refine (HSL2.out _ (hBr2.bel hb4) (hHr2.bel hb4)).mono ?_; rintro e_ w5 ⟨rfl, hb5⟩; have hX5 := hX4.bel hb5; have hP5 := hP4.bel hb5; have y0 := hX5.cell 0; have y1 := hX5.cell 1; have y2 := hX5.cell 2; have y3 := hX5.cell 3; have y4 := hX5.cell 4; simp only [List.getElem?_cons_zero, List.getElem?_cons_succ] at y0 y1 y2 y3 y4; have q0 := hP5.cell 0; have q1 := hP5.cell 1; simp only [List.getElem?_cons_zero, List.getElem?_cons_succ] at q0 q1; have hzx5 := hX5.lt; have hzp5 := hP5.lt))
        have hb6 : Below wr.heap.size wr w5 := bel_tr hb4 hb4.size hb5
        have hB6 := bel_tr hBr hBr.size hb6
        have hL6 := hLr.bel hb6
        clear x0 x1 x2 x3 x4 p0 p1 HCP HOA HSL2 hx2 hb2 hb3 hb4 hb5 hX4 hP4
        go_quiet ((first | (go_at_call 25; exact quiet_eq (HFL.out _)) | (go_at_call 26; exact quiet_eq (HCL.out _))))
        go_wp2_with (first | (go_at_call 13; refine (HTA.out _ (hL6.drewN _)).mono ?_; rintro e_ w7 ⟨rfl, hb7⟩; have hP7 := (hP5.drewN nq).bel hb7; have r0 := hP7.cell 0; have r1 := hP7.cell 1; simp only [List.getElem?_cons_zero, List.getElem?_cons_succ] at r0 r1; have hzr7 := hP7.lt))
        go_ret
        exact ⟨rfl, bel_alloc (bel_tr (below_drewN hB6 nq) hB6.size hb7) (by have := hB6.size; have := hb7.size; simp at this; omega) _⟩
end Go.Proofs.Ytajkljfbllgbiaa
