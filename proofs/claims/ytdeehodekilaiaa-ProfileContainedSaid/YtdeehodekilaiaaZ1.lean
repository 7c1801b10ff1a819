/- Contracts: a sample of the statement over all thicknesses. -/
import Derived.Test.YtdeehodekilaiaaU1
import Derived.Test.YtdeehodekilaiaaU3
import Derived.Test.YtdeehodekilaiaaG1
import Derived.Test.YtdeehodekilaiaaY2
import Derived.Test.YtdeehodekilaiaaY3
import Derived.Test.YtdeehodekilaiaaZ0
set_option linter.unusedSimpArgs false
set_option linter.unusedVariables false
namespace Go.Proofs.Ytdeehodekilaiaa
open Go.RowKit
set_option maxRecDepth 100000

/-- What a sample must be before its square is looked at. -/
structure SampPre (fs ts vs : List Int) (B af wd : Int) : Prop where
  n0 : 1 ≤ fs.length
  n1 : fs.length ≤ 8
  nt : ts.length = fs.length
  nv : vs.length = fs.length
  b0 : 0 ≤ B
  b1 : B ≤ 500
  a0 : 0 ≤ af
  a1 : af < (fs.length : Int)
  w0 : 0 ≤ wd
  w1 : wd ≤ 500
  f0 : ∀ k, k < fs.length → 1 ≤ fs.getD k 0 ∧ fs.getD k 0 ≤ 3000
  up : ∀ k, k + 1 < fs.length → fs.getD k 0 < fs.getD (k + 1) 0
  t0 : ∀ k, k < fs.length → 0 ≤ ts.getD k 0 ∧ ts.getD k 0 ≤ 500
  v0 : ∀ k, k < fs.length → 0 ≤ vs.getD k 0 ∧ vs.getD k 0 ≤ 1000
/-- Points without pixels. -/
def bareL (fs : List Int) (k : Nat) : List PT := (List.range k).map fun j => (fs.getD j 0, 0, 0)
@[simp] theorem bareL_length (fs : List Int) (k : Nat) : (bareL fs k).length = k := by simp [bareL]
theorem bareL_succ (fs : List Int) (k : Nat) : bareL fs (k + 1) = bareL fs k ++ [(fs.getD k 0, 0, 0)] := by simp [bareL, List.range_succ]
def slabK (fs ts : List Int) (k : Nat) : List G := (List.range k).map fun j => (fs.getD j 0 * fs.getD j 0, ts.getD j 0)
@[simp] theorem slabK_length (fs ts : List Int) (k : Nat) : (slabK fs ts k).length = k := by simp [slabK]
theorem slabK_succ (fs ts : List Int) (k : Nat) : slabK fs ts (k + 1) = slabK fs ts k ++ [(fs.getD k 0 * fs.getD k 0, ts.getD k 0)] := by simp [slabK, List.range_succ]
theorem slabK_all (fs ts : List Int) : slabK fs ts fs.length = slabL fs ts := rfl

/-- Two rows of different kinds lie in different blocks. -/
theorem rows_apart {W : World} {b b' : Nat} {e e' : TypeId} {s s' n n' : Nat} {v v' : Value} {xs xs' : List Value} (h : W.ownsRow b e s v n xs) (h' : W.ownsRow b' e' s' v' n' xs') (hne : e ≠ e') {j : Nat} (hj : v.ownBlock = some j) : v'.ownBlock ≠ some j := by
  intro hj'
  rcases h.2 with ⟨rfl, _⟩ | ⟨g, cap, cur, rfl, _, hg, _⟩
  · simp [Value.ownBlock] at hj
  · rcases h'.2 with ⟨rfl, _⟩ | ⟨g', cap', cur', rfl, _, hg', _⟩
    · simp [Value.ownBlock] at hj'
    · simp only [Value.ownBlock, Option.some.injEq] at hj hj'
      rw [hj] at hg
      rw [hj'] at hg'
      rw [hg] at hg'
      simp at hg'
      exact hne hg'.2
theorem row_blk {W : World} {b : Nat} {e t : TypeId} {s n g : Nat} {v : Value} {xs cs : List Value} (h : W.ownsRow b e s v n xs) (hB : Blk W g t cs) (hne : e ≠ t) : v.ownBlock ≠ some g := by
  intro hj
  rcases h.2 with ⟨rfl, _⟩ | ⟨g', cap, cur, rfl, _, hg, _⟩
  · simp [Value.ownBlock] at hj
  · simp only [Value.ownBlock, Option.some.injEq] at hj
    rw [hj] at hg
    unfold Blk at hB
    rw [hg] at hB
    simp at hB
    exact hne hB.2
/-- A row kept while another one grows. -/
theorem row_grown {W w' : World} {b b' : Nat} {e e' : TypeId} {s s' n n' : Nat} {v v' : Value} {xs xs' : List Value} {o : Obj} (h' : W.ownsRow b' e' s' v' n' xs') (h : W.ownsRow b e s v n xs) (hne : e ≠ e') (hg : (W.alloc o).grownBy w' v.ownBlock) : w'.ownsRow b' e' s' v' n' xs' := by
  refine (h'.alloc o).kept (row := v.ownBlock) ⟨hg.os, hg.tape, hg.output, hg.size, fun k hk hn => hg.block k hk hn⟩ ?_
  cases hv' : v'.ownBlock with
  | none => exact .inl rfl
  | some j => exact .inr fun he => rows_apart h h' hne he.symm hv'
theorem blk_grown {W w' : World} {b : Nat} {e t : TypeId} {s n g : Nat} {v : Value} {xs cs : List Value} {o : Obj} (hB : Blk W g t cs) (h : W.ownsRow b e s v n xs) (hne : e ≠ t) (hg : (W.alloc o).grownBy w' v.ownBlock) : Blk w' g t cs :=
  (hg.block g (by have := hB.lt; simp; omega) (fun e' => row_blk h hB hne e'.symm)).trans (hB.bel (alloc_bel _ _))
theorem row_grown0 {W w' : World} {b b' : Nat} {e e' : TypeId} {s s' n n' : Nat} {v v' : Value} {xs xs' : List Value} (h' : W.ownsRow b' e' s' v' n' xs') (h : W.ownsRow b e s v n xs) (hne : e ≠ e') (hg : W.grownBy w' v.ownBlock) : w'.ownsRow b' e' s' v' n' xs' := by
  refine h'.kept (row := v.ownBlock) hg ?_
  cases hv' : v'.ownBlock with
  | none => exact .inl rfl
  | some j => exact .inr fun he => rows_apart h h' hne he.symm hv'
/-- What a sample asks of its number k. -/
def okS (fs ts vs : List Int) (k : Nat) : Prop := freqE (fs.getD k 0) = 0 ∧ (0 < k → fs.getD (k - 1) 0 < fs.getD k 0) ∧ outB (ts.getD k 0) 0 500 = false ∧ outB (vs.getD k 0) 0 1000 = false
instance (fs ts vs : List Int) (k : Nat) : Decidable (okS fs ts vs k) := by unfold okS; infer_instance
def SampPost (fs ts vs : List Int) (B af wd sq : Int) (w : World) (r : Ending) (w' : World) : Prop :=
  ((r = .returned (.tuple #[.agg #[.int .i64 0, .slice none 0 0], .agg #[.slice none 0 0, .int .i64 0, .int .i64 0], .bool false])) ∨
    (SampPre fs ts vs B af wd ∧ ∃ A c P d, r = .returned (.tuple #[.agg #[.int .i64 B, .slice A fs.length c], .agg #[.slice P fs.length d, .int .i64 af, .int .i64 wd], .bool !(outB sq 0 (fs.getD af.toNat 0 * fs.getD af.toNat 0 - 1))]) ∧ fs.length ≤ c ∧ RdT w' 47 A (gs (slabL fs ts)) ∧ w'.ownsRow w.heap.size 55 3 (.slice P fs.length d) fs.length (ps (bareL fs fs.length)))) ∧ Below w.heap.size w w'
set_option maxHeartbeats 8000000 in
theorem sampled_c (F H V : Option Addr) (fc hc vc : Nat) (fs ts vs : List Int) (B af wd sq : Int) (w : World) (hF : Rd w F (ints fs)) (hH : Rd w H (ints ts)) (hV : Rd w V (ints vs)) (hfx : fs.length ≤ maxLen) (htx : ts.length ≤ maxLen) (hvx : vs.length ≤ maxLen) :
    Calls Try.prog 14 #[.agg #[.slice F fs.length fc, .slice H ts.length hc, .slice V vs.length vc, .int .i64 B, .int .i64 af, .int .i64 wd, .int .i64 sq]] w (SampPost fs ts vs B af wd sq w) := by
  have hfx' : fs.length ≤ 9223372036854775807 := hfx
  have htx' : ts.length ≤ 9223372036854775807 := htx
  have hvx' : vs.length ≤ 9223372036854775807 := hvx
  obtain ⟨W0, hW0⟩ : ∃ W0, ((w.alloc (.cells #[.slice F fs.length fc, .slice H ts.length hc, .slice V vs.length vc, .int .i64 B, .int .i64 af, .int .i64 wd, .int .i64 sq] 42)).alloc (.cells #[.int .i64 0, .slice none 0 0] 24)).alloc (.cells #[.slice none 0 0, .int .i64 0, .int .i64 0] 30) = W0 := ⟨_, rfl⟩
  obtain ⟨p, hp⟩ : ∃ p, w.heap.size = p := ⟨_, rfl⟩
  obtain ⟨hs0, hX0, hR0, hT0, hB0⟩ := three_new w W0 _ _ _ [_, _, _, _, _, _, _] [_, _] [_, _, _] hW0
  rw [hp] at hs0 hX0 hR0 hT0 hB0
  have hs1 : p + 3 ≤ W0.heap.size := by omega
  clear hs0
  have hF0 := hF.below hB0 (by omega)
  have hH0 := hH.below hB0 (by omega)
  have hV0 := hV.below hB0 (by omega)
  have HW := hide hW0
  clear hW0
  have c0 := hX0.cell 0; have c1 := hX0.cell 1; have c2 := hX0.cell 2; have c3 := hX0.cell 3; have c4 := hX0.cell 4; have c5 := hX0.cell 5; have c6 := hX0.cell 6; simp only [List.getElem?_cons_zero, List.getElem?_cons_succ] at c0 c1 c2 c3 c4 c5 c6
  have z0 := hX0.lt
  have u1 : 1 ≤ fs.length → IntKind.i64.wrap ((fs.length : Int) - 1) = (fs.length : Int) - 1 := fun h => by simp (disch := omega) only [IntWalk.i64_in]
  go_enter Try.func14, Try.ntmps14
  go_upto_region 1 with fail
  rw [HW.out]
  by_cases n0 : fs.length = 0
  · have e1 : ((fs.length : Int) == 0) = true := by simp; exact List.eq_nil_of_length_eq_zero n0
    clear n0 u1
    have k0 := hR0.cell 0
    have k1 := hR0.cell 1
    have k2 := hT0.cell 0
    have k3 := hT0.cell 1
    have k4 := hT0.cell 2
    simp only [List.getElem?_cons_zero, List.getElem?_cons_succ] at k0 k1 k2 k3 k4
    have fz0 := hR0.frozen 0
    have fz1 := hR0.frozen 1
    have fz2 := hT0.frozen 0
    have fz3 := hT0.frozen 1
    have fz4 := hT0.frozen 2
    have zt := hR0.lt
    have zr := hT0.lt
    go_wp2_with (first | (go_at_call 15; with_reducible refine (HWB.out _).mono ?_; rintro e_ w_ ⟨rfl, rfl⟩) | (go_at_call 15; with_reducible refine (HWA.out _).mono ?_; rintro e_ w_ ⟨rfl, rfl⟩) | (go_at_call 15; with_reducible refine (HWW.out _).mono ?_; rintro e_ w_ ⟨rfl, rfl⟩) | (go_at_call 40; refine (frequencyErr_c _ _).mono ?_; rintro e_ w_ ⟨rfl, rfl⟩) | (go_at_call 15; with_reducible refine (HWT.out _).mono ?_; rintro e_ w_ ⟨rfl, rfl⟩) | (go_at_call 15; with_reducible refine (HWV.out _).mono ?_; rintro e_ w_ ⟨rfl, rfl⟩))
    obtain ⟨WE, hWE⟩ : ∃ WE, ((((W0.setCell ⟨p + 1, 0, none⟩ (.int .i64 0)).setCell ⟨p + 1, 1, none⟩ (.slice none 0 0)).setCell ⟨p + 2, 0, none⟩ (.slice none 0 0)).setCell ⟨p + 2, 1, none⟩ (.int .i64 0)).setCell ⟨p + 2, 2, none⟩ (.int .i64 0) = WE := ⟨_, rfl⟩
    rw [hWE]
    have hE : Blk WE (p + 1) 24 [.int .i64 0, .slice none 0 0] := by rw [← hWE]; exact ((((hR0.set_ 0 _).set_ 1 _).far (by show p + 1 ≠ p + 2; omega) _).far (by show p + 1 ≠ p + 2; omega) _).far (by show p + 1 ≠ p + 2; omega) _
    have hE2 : Blk WE (p + 2) 30 [.slice none 0 0, .int .i64 0, .int .i64 0] := by rw [← hWE]; exact (((((hT0.far (by show p + 2 ≠ p + 1; omega) _).far (by show p + 2 ≠ p + 1; omega) _).set_ 0 _).set_ 1 _).set_ 2 _)
    have hBE : Below p w WE := by rw [← hWE]; exact ((((hB0.setCell (by show p ≤ p + 1; omega) _).setCell (by show p ≤ p + 1; omega) _).setCell (by show p ≤ p + 2; omega) _).setCell (by show p ≤ p + 2; omega) _).setCell (by show p ≤ p + 2; omega) _
    clear hWE
    have g0 := hE.cell 0; have g1 := hE.cell 1; simp only [List.getElem?_cons_zero, List.getElem?_cons_succ] at g0 g1
    have e0 := hE2.cell 0; have e1 := hE2.cell 1; have e2 := hE2.cell 2; simp only [List.getElem?_cons_zero, List.getElem?_cons_succ] at e0 e1 e2
    exact bodyPost_ret (v := .tuple #[.agg #[.int .i64 0, .slice none 0 0], .agg #[.slice none 0 0, .int .i64 0, .int .i64 0], .bool false]) (by simp [results, Try.results14, go_sem, g0, g1, e0, e1, e2]; try rfl) rfl ⟨.inl rfl, by rw [hp]; exact hBE⟩
  · have e1 : ((fs.length : Int) == 0) = false := by simp; rintro rfl; exact n0 rfl
    have u1 := u1 (by omega)
    by_cases n1 : 8 < fs.length
    · have e2 : decide (8 < (fs.length : Int)) = true := decide_eq_true (by omega)
      clear n0 n1
      have k0 := hR0.cell 0
      have k1 := hR0.cell 1
      have k2 := hT0.cell 0
      have k3 := hT0.cell 1
      have k4 := hT0.cell 2
      simp only [List.getElem?_cons_zero, List.getElem?_cons_succ] at k0 k1 k2 k3 k4
      have fz0 := hR0.frozen 0
      have fz1 := hR0.frozen 1
      have fz2 := hT0.frozen 0
      have fz3 := hT0.frozen 1
      have fz4 := hT0.frozen 2
      have zt := hR0.lt
      have zr := hT0.lt
      go_wp2_with (first | (go_at_call 15; with_reducible refine (HWB.out _).mono ?_; rintro e_ w_ ⟨rfl, rfl⟩) | (go_at_call 15; with_reducible refine (HWA.out _).mono ?_; rintro e_ w_ ⟨rfl, rfl⟩) | (go_at_call 15; with_reducible refine (HWW.out _).mono ?_; rintro e_ w_ ⟨rfl, rfl⟩) | (go_at_call 40; refine (frequencyErr_c _ _).mono ?_; rintro e_ w_ ⟨rfl, rfl⟩) | (go_at_call 15; with_reducible refine (HWT.out _).mono ?_; rintro e_ w_ ⟨rfl, rfl⟩) | (go_at_call 15; with_reducible refine (HWV.out _).mono ?_; rintro e_ w_ ⟨rfl, rfl⟩))
      obtain ⟨WE, hWE⟩ : ∃ WE, ((((W0.setCell ⟨p + 1, 0, none⟩ (.int .i64 0)).setCell ⟨p + 1, 1, none⟩ (.slice none 0 0)).setCell ⟨p + 2, 0, none⟩ (.slice none 0 0)).setCell ⟨p + 2, 1, none⟩ (.int .i64 0)).setCell ⟨p + 2, 2, none⟩ (.int .i64 0) = WE := ⟨_, rfl⟩
      rw [hWE]
      have hE : Blk WE (p + 1) 24 [.int .i64 0, .slice none 0 0] := by rw [← hWE]; exact ((((hR0.set_ 0 _).set_ 1 _).far (by show p + 1 ≠ p + 2; omega) _).far (by show p + 1 ≠ p + 2; omega) _).far (by show p + 1 ≠ p + 2; omega) _
      have hE2 : Blk WE (p + 2) 30 [.slice none 0 0, .int .i64 0, .int .i64 0] := by rw [← hWE]; exact (((((hT0.far (by show p + 2 ≠ p + 1; omega) _).far (by show p + 2 ≠ p + 1; omega) _).set_ 0 _).set_ 1 _).set_ 2 _)
      have hBE : Below p w WE := by rw [← hWE]; exact ((((hB0.setCell (by show p ≤ p + 1; omega) _).setCell (by show p ≤ p + 1; omega) _).setCell (by show p ≤ p + 2; omega) _).setCell (by show p ≤ p + 2; omega) _).setCell (by show p ≤ p + 2; omega) _
      clear hWE
      have g0 := hE.cell 0; have g1 := hE.cell 1; simp only [List.getElem?_cons_zero, List.getElem?_cons_succ] at g0 g1
      have e0 := hE2.cell 0; have e1 := hE2.cell 1; have e2 := hE2.cell 2; simp only [List.getElem?_cons_zero, List.getElem?_cons_succ] at e0 e1 e2
      exact bodyPost_ret (v := .tuple #[.agg #[.int .i64 0, .slice none 0 0], .agg #[.slice none 0 0, .int .i64 0, .int .i64 0], .bool false]) (by simp [results, Try.results14, go_sem, g0, g1, e0, e1, e2]; try rfl) rfl ⟨.inl rfl, by rw [hp]; exact hBE⟩
    · have e2 : decide (8 < (fs.length : Int)) = false := decide_eq_false (by omega)
      by_cases nt : ts.length = fs.length
      · have e3 : ((ts.length : Int) != (fs.length : Int)) = false := by simp; omega
        by_cases nv : vs.length = fs.length
        · have e4 : ((vs.length : Int) != (fs.length : Int)) = false := by simp; omega
          have HWB := hide (fun W => within_c B 0 500 W)
          cases hb : outB B 0 500
          case true =>
            rw [hb] at HWB
            have k0 := hR0.cell 0
            have k1 := hR0.cell 1
            have k2 := hT0.cell 0
            have k3 := hT0.cell 1
            have k4 := hT0.cell 2
            simp only [List.getElem?_cons_zero, List.getElem?_cons_succ] at k0 k1 k2 k3 k4
            have fz0 := hR0.frozen 0
            have fz1 := hR0.frozen 1
            have fz2 := hT0.frozen 0
            have fz3 := hT0.frozen 1
            have fz4 := hT0.frozen 2
            have zt := hR0.lt
            have zr := hT0.lt
            go_wp2_with (first | (go_at_call 15; with_reducible refine (HWB.out _).mono ?_; rintro e_ w_ ⟨rfl, rfl⟩) | (go_at_call 15; with_reducible refine (HWA.out _).mono ?_; rintro e_ w_ ⟨rfl, rfl⟩) | (go_at_call 15; with_reducible refine (HWW.out _).mono ?_; rintro e_ w_ ⟨rfl, rfl⟩) | (go_at_call 40; refine (frequencyErr_c _ _).mono ?_; rintro e_ w_ ⟨rfl, rfl⟩) | (go_at_call 15; with_reducible refine (HWT.out _).mono ?_; rintro e_ w_ ⟨rfl, rfl⟩) | (go_at_call 15; with_reducible refine (HWV.out _).mono ?_; rintro e_ w_ ⟨rfl, rfl⟩))
            obtain ⟨WE, hWE⟩ : ∃ WE, ((((W0.setCell ⟨p + 1, 0, none⟩ (.int .i64 0)).setCell ⟨p + 1, 1, none⟩ (.slice none 0 0)).setCell ⟨p + 2, 0, none⟩ (.slice none 0 0)).setCell ⟨p + 2, 1, none⟩ (.int .i64 0)).setCell ⟨p + 2, 2, none⟩ (.int .i64 0) = WE := ⟨_, rfl⟩
            rw [hWE]
            have hE : Blk WE (p + 1) 24 [.int .i64 0, .slice none 0 0] := by rw [← hWE]; exact ((((hR0.set_ 0 _).set_ 1 _).far (by show p + 1 ≠ p + 2; omega) _).far (by show p + 1 ≠ p + 2; omega) _).far (by show p + 1 ≠ p + 2; omega) _
            have hE2 : Blk WE (p + 2) 30 [.slice none 0 0, .int .i64 0, .int .i64 0] := by rw [← hWE]; exact (((((hT0.far (by show p + 2 ≠ p + 1; omega) _).far (by show p + 2 ≠ p + 1; omega) _).set_ 0 _).set_ 1 _).set_ 2 _)
            have hBE : Below p w WE := by rw [← hWE]; exact ((((hB0.setCell (by show p ≤ p + 1; omega) _).setCell (by show p ≤ p + 1; omega) _).setCell (by show p ≤ p + 2; omega) _).setCell (by show p ≤ p + 2; omega) _).setCell (by show p ≤ p + 2; omega) _
            clear hWE
            have g0 := hE.cell 0; have g1 := hE.cell 1; simp only [List.getElem?_cons_zero, List.getElem?_cons_succ] at g0 g1
            have e0 := hE2.cell 0; have e1 := hE2.cell 1; have e2 := hE2.cell 2; simp only [List.getElem?_cons_zero, List.getElem?_cons_succ] at e0 e1 e2
            exact bodyPost_ret (v := .tuple #[.agg #[.int .i64 0, .slice none 0 0], .agg #[.slice none 0 0, .int .i64 0, .int .i64 0], .bool false]) (by simp [results, Try.results14, go_sem, g0, g1, e0, e1, e2]; try rfl) rfl ⟨.inl rfl, by rw [hp]; exact hBE⟩
          case false =>
            rw [hb] at HWB
            have HWA := hide (fun W => within_c af 0 ((fs.length : Int) - 1) W)
            cases ha : outB af 0 ((fs.length : Int) - 1)
            case true =>
              rw [ha] at HWA
              have k0 := hR0.cell 0
              have k1 := hR0.cell 1
              have k2 := hT0.cell 0
              have k3 := hT0.cell 1
              have k4 := hT0.cell 2
              simp only [List.getElem?_cons_zero, List.getElem?_cons_succ] at k0 k1 k2 k3 k4
              have fz0 := hR0.frozen 0
              have fz1 := hR0.frozen 1
              have fz2 := hT0.frozen 0
              have fz3 := hT0.frozen 1
              have fz4 := hT0.frozen 2
              have zt := hR0.lt
              have zr := hT0.lt
              go_wp2_with (first | (go_at_call 15; with_reducible refine (HWB.out _).mono ?_; rintro e_ w_ ⟨rfl, rfl⟩) | (go_at_call 15; with_reducible refine (HWA.out _).mono ?_; rintro e_ w_ ⟨rfl, rfl⟩) | (go_at_call 15; with_reducible refine (HWW.out _).mono ?_; rintro e_ w_ ⟨rfl, rfl⟩) | (go_at_call 40; refine (frequencyErr_c _ _).mono ?_; rintro e_ w_ ⟨rfl, rfl⟩) | (go_at_call 15; with_reducible refine (HWT.out _).mono ?_; rintro e_ w_ ⟨rfl, rfl⟩) | (go_at_call 15; with_reducible refine (HWV.out _).mono ?_; rintro e_ w_ ⟨rfl, rfl⟩))
              obtain ⟨WE, hWE⟩ : ∃ WE, ((((W0.setCell ⟨p + 1, 0, none⟩ (.int .i64 0)).setCell ⟨p + 1, 1, none⟩ (.slice none 0 0)).setCell ⟨p + 2, 0, none⟩ (.slice none 0 0)).setCell ⟨p + 2, 1, none⟩ (.int .i64 0)).setCell ⟨p + 2, 2, none⟩ (.int .i64 0) = WE := ⟨_, rfl⟩
              rw [hWE]
              have hE : Blk WE (p + 1) 24 [.int .i64 0, .slice none 0 0] := by rw [← hWE]; exact ((((hR0.set_ 0 _).set_ 1 _).far (by show p + 1 ≠ p + 2; omega) _).far (by show p + 1 ≠ p + 2; omega) _).far (by show p + 1 ≠ p + 2; omega) _
              have hE2 : Blk WE (p + 2) 30 [.slice none 0 0, .int .i64 0, .int .i64 0] := by rw [← hWE]; exact (((((hT0.far (by show p + 2 ≠ p + 1; omega) _).far (by show p + 2 ≠ p + 1; omega) _).set_ 0 _).set_ 1 _).set_ 2 _)
              have hBE : Below p w WE := by rw [← hWE]; exact ((((hB0.setCell (by show p ≤ p + 1; omega) _).setCell (by show p ≤ p + 1; omega) _).setCell (by show p ≤ p + 2; omega) _).setCell (by show p ≤ p + 2; omega) _).setCell (by show p ≤ p + 2; omega) _
              clear hWE
              have g0 := hE.cell 0; have g1 := hE.cell 1; simp only [List.getElem?_cons_zero, List.getElem?_cons_succ] at g0 g1
              have e0 := hE2.cell 0; have e1 := hE2.cell 1; have e2 := hE2.cell 2; simp only [List.getElem?_cons_zero, List.getElem?_cons_succ] at e0 e1 e2
              exact bodyPost_ret (v := .tuple #[.agg #[.int .i64 0, .slice none 0 0], .agg #[.slice none 0 0, .int .i64 0, .int .i64 0], .bool false]) (by simp [results, Try.results14, go_sem, g0, g1, e0, e1, e2]; try rfl) rfl ⟨.inl rfl, by rw [hp]; exact hBE⟩
            case false =>
              rw [ha] at HWA
              have HWW := hide (fun W => within_c wd 0 500 W)
              cases hw : outB wd 0 500
              case true =>
                rw [hw] at HWW
                have k0 := hR0.cell 0
                have k1 := hR0.cell 1
                have k2 := hT0.cell 0
                have k3 := hT0.cell 1
                have k4 := hT0.cell 2
                simp only [List.getElem?_cons_zero, List.getElem?_cons_succ] at k0 k1 k2 k3 k4
                have fz0 := hR0.frozen 0
                have fz1 := hR0.frozen 1
                have fz2 := hT0.frozen 0
                have fz3 := hT0.frozen 1
                have fz4 := hT0.frozen 2
                have zt := hR0.lt
                have zr := hT0.lt
                go_wp2_with (first | (go_at_call 15; with_reducible refine (HWB.out _).mono ?_; rintro e_ w_ ⟨rfl, rfl⟩) | (go_at_call 15; with_reducible refine (HWA.out _).mono ?_; rintro e_ w_ ⟨rfl, rfl⟩) | (go_at_call 15; with_reducible refine (HWW.out _).mono ?_; rintro e_ w_ ⟨rfl, rfl⟩) | (go_at_call 40; refine (frequencyErr_c _ _).mono ?_; rintro e_ w_ ⟨rfl, rfl⟩) | (go_at_call 15; with_reducible refine (HWT.out _).mono ?_; rintro e_ w_ ⟨rfl, rfl⟩) | (go_at_call 15; with_reducible refine (HWV.out _).mono ?_; rintro e_ w_ ⟨rfl, rfl⟩))
                obtain ⟨WE, hWE⟩ : ∃ WE, ((((W0.setCell ⟨p + 1, 0, none⟩ (.int .i64 0)).setCell ⟨p + 1, 1, none⟩ (.slice none 0 0)).setCell ⟨p + 2, 0, none⟩ (.slice none 0 0)).setCell ⟨p + 2, 1, none⟩ (.int .i64 0)).setCell ⟨p + 2, 2, none⟩ (.int .i64 0) = WE := ⟨_, rfl⟩
                rw [hWE]
                have hE : Blk WE (p + 1) 24 [.int .i64 0, .slice none 0 0] := by rw [← hWE]; exact ((((hR0.set_ 0 _).set_ 1 _).far (by show p + 1 ≠ p + 2; omega) _).far (by show p + 1 ≠ p + 2; omega) _).far (by show p + 1 ≠ p + 2; omega) _
                have hE2 : Blk WE (p + 2) 30 [.slice none 0 0, .int .i64 0, .int .i64 0] := by rw [← hWE]; exact (((((hT0.far (by show p + 2 ≠ p + 1; omega) _).far (by show p + 2 ≠ p + 1; omega) _).set_ 0 _).set_ 1 _).set_ 2 _)
                have hBE : Below p w WE := by rw [← hWE]; exact ((((hB0.setCell (by show p ≤ p + 1; omega) _).setCell (by show p ≤ p + 1; omega) _).setCell (by show p ≤ p + 2; omega) _).setCell (by show p ≤ p + 2; omega) _).setCell (by show p ≤ p + 2; omega) _
                clear hWE
                have g0 := hE.cell 0; have g1 := hE.cell 1; simp only [List.getElem?_cons_zero, List.getElem?_cons_succ] at g0 g1
                have e0 := hE2.cell 0; have e1 := hE2.cell 1; have e2 := hE2.cell 2; simp only [List.getElem?_cons_zero, List.getElem?_cons_succ] at e0 e1 e2
                exact bodyPost_ret (v := .tuple #[.agg #[.int .i64 0, .slice none 0 0], .agg #[.slice none 0 0, .int .i64 0, .int .i64 0], .bool false]) (by simp [results, Try.results14, go_sem, g0, g1, e0, e1, e2]; try rfl) rfl ⟨.inl rfl, by rw [hp]; exact hBE⟩
              case false =>
                rw [hw] at HWW
                go_upto_region 4 with (first | (go_at_call 15; with_reducible refine (HWB.out _).mono ?_; rintro e_ w_ ⟨rfl, rfl⟩) | (go_at_call 15; with_reducible refine (HWA.out _).mono ?_; rintro e_ w_ ⟨rfl, rfl⟩) | (go_at_call 15; with_reducible refine (HWW.out _).mono ?_; rintro e_ w_ ⟨rfl, rfl⟩))
                go_cut [6, 7] from 55 to 62 (fun t u wx => ∃ g1 g2 : Nat, t = .pointer (some ⟨g1, 0, none⟩) ∧ u = .pointer (some ⟨g2, 0, none⟩) ∧ W0.heap.size ≤ g1 ∧ W0.heap.size ≤ g2 ∧ Blk wx g1 24 [.int .i64 B, .slice none 0 0] ∧ Blk wx g2 30 [.slice none 0 0, .int .i64 af, .int .i64 wd] ∧ Below W0.heap.size W0 wx)
                case first =>
                  refine wp_region_held (S := fun w' => (∀ b o, b < W0.heap.size → w'.cell? ⟨b, o, none⟩ = W0.cell? ⟨b, o, none⟩) ∧ Below W0.heap.size W0 w') (by kernel_rfl) ?_
                  have hSd : (∀ b o, b < W0.heap.size → W0.drew.cell? ⟨b, o, none⟩ = W0.cell? ⟨b, o, none⟩) ∧ Below W0.heap.size W0 W0.drew := kp (Below.refl _ _).drew
                  change wpAnyH _ _ _ _ _ _ _ _ W0.drew
                  refine wpAnyH_take (i := 0) (v := ?_) rfl (by kernel_rfl) (by kernel_rfl) (by kernel_rfl) (fun _ _ _ h => h) (Or.inl ⟨by kernel_rfl, ?_⟩) (by assumption) ?_
                  rotate_left 1
                  · (intro w hSw; obtain ⟨hk1, hk2⟩ := hSw; go_simp <;> with_reducible rfl)
                  simp only [Act.put, List.getElem_toArray, List.getElem_cons_zero, List.setIfInBounds_toArray, List.set_cons_zero, List.set_cons_succ]
                  refine wpAnyH_take (i := 1) (v := ?_) rfl (by kernel_rfl) (by kernel_rfl) (by kernel_rfl) (fun _ _ _ h => h) (Or.inl ⟨by kernel_rfl, ?_⟩) (by assumption) ?_
                  rotate_left 1
                  · (intro w hSw; obtain ⟨hk1, hk2⟩ := hSw; go_simp <;> with_reducible rfl)
                  simp only [Act.put, List.getElem_toArray, List.getElem_cons_zero, List.getElem_cons_succ, List.setIfInBounds_toArray, List.set_cons_zero, List.set_cons_succ]
                  refine wpAnyH_take (i := 2) (v := ?_) rfl (by kernel_rfl) (by kernel_rfl) (by kernel_rfl) (fun _ _ _ h => h) (Or.inl ⟨by kernel_rfl, ?_⟩) (by assumption) ?_
                  rotate_left 1
                  · (intro w hSw; obtain ⟨hk1, hk2⟩ := hSw; go_simp <;> with_reducible rfl)
                  simp only [Act.put, List.getElem_toArray, List.getElem_cons_zero, List.getElem_cons_succ, List.setIfInBounds_toArray, List.set_cons_zero, List.set_cons_succ]
                  refine wpAnyH_take (i := 3) (v := ?_) rfl (by kernel_rfl) (by kernel_rfl) (by kernel_rfl) (fun _ _ _ h => h) (Or.inl ⟨by kernel_rfl, ?_⟩) (by assumption) ?_
                  rotate_left 1
                  · (intro w hSw; obtain ⟨hk1, hk2⟩ := hSw; go_simp <;> with_reducible rfl)
                  simp only [Act.put, List.getElem_toArray, List.getElem_cons_zero, List.getElem_cons_succ, List.setIfInBounds_toArray, List.set_cons_zero, List.set_cons_succ]
                  refine wpAnyH_take (i := 4) (v := ?_) rfl (by kernel_rfl) (by kernel_rfl) (by kernel_rfl) (fun _ _ _ h => h) (Or.inl ⟨by kernel_rfl, ?_⟩) (by assumption) ?_
                  rotate_left 1
                  · (intro w hSw; obtain ⟨hk1, hk2⟩ := hSw; go_simp <;> with_reducible rfl)
                  simp only [Act.put, List.getElem_toArray, List.getElem_cons_zero, List.getElem_cons_succ, List.setIfInBounds_toArray, List.set_cons_zero, List.set_cons_succ]
                  refine wpAnyH_take (i := 5) (v := ?_) rfl (by kernel_rfl) (by kernel_rfl) (by kernel_rfl) (fun _ _ _ h => h) (Or.inl ⟨by kernel_rfl, ?_⟩) (by assumption) ?_
                  rotate_left 1
                  · (intro w hSw; obtain ⟨hk1, hk2⟩ := hSw; go_simp <;> with_reducible rfl)
                  simp only [Act.put, List.getElem_toArray, List.getElem_cons_zero, List.getElem_cons_succ, List.setIfInBounds_toArray, List.set_cons_zero, List.set_cons_succ]
                  refine wpAnyH_take (i := 6) (v := ?_) rfl (by kernel_rfl) (by kernel_rfl) (by kernel_rfl) (fun _ _ _ h => h) (Or.inl ⟨by kernel_rfl, ?_⟩) (by assumption) ?_
                  rotate_left 1
                  · (intro w hSw; obtain ⟨hk1, hk2⟩ := hSw; go_simp <;> with_reducible rfl)
                  simp only [Act.put, List.getElem_toArray, List.getElem_cons_zero, List.getElem_cons_succ, List.setIfInBounds_toArray, List.set_cons_zero, List.set_cons_succ]
                  refine wpAnyH_take (i := 7) (v := ?_) rfl (by kernel_rfl) (by kernel_rfl) (by kernel_rfl) (fun _ _ _ h => h) (Or.inl ⟨by kernel_rfl, ?_⟩) (by assumption) ?_
                  rotate_left 1
                  · (intro w hSw; obtain ⟨hk1, hk2⟩ := hSw; go_simp <;> with_reducible rfl)
                  simp only [Act.put, List.getElem_toArray, List.getElem_cons_zero, List.getElem_cons_succ, List.setIfInBounds_toArray, List.set_cons_zero, List.set_cons_succ]
                  refine nextH2 (i := 8) (j := 9) (by kernel_rfl) rfl rfl (fun K hK => ?_) (fun K hK => ?_)
                  · go_simp
                    refine hK _ _ (kp (bel_alloc (Below.refl W0.heap.size W0) (Nat.le_refl _) (.cells #[.int .i64 0, .slice none 0 0] 24)).drew) ?_
                    clear hK K
                    refine nextH (i := 9) (by kernel_rfl) rfl (fun K hK => ?_)
                    go_simp
                    obtain ⟨W5, hW5⟩ : ∃ W5, ((W0.alloc (.cells #[.int .i64 0, .slice none 0 0] 24)).alloc (.cells #[.slice none 0 0, .int .i64 0, .int .i64 0] 30)).drew = W5 := ⟨_, rfl⟩
                    obtain ⟨hA5, hC5, hb5⟩ : Blk W5 W0.heap.size 24 [.int .i64 0, .slice none 0 0] ∧ Blk W5 (W0.heap.size + 1) 30 [.slice none 0 0, .int .i64 0, .int .i64 0] ∧ Below W0.heap.size W0 W5 := by
                      rw [← hW5]
                      have := two_new W0 24 30 [.int .i64 0, .slice none 0 0] [.slice none 0 0, .int .i64 0, .int .i64 0]
                      exact ⟨this.1, this.2.1, this.2.2.drew⟩
                    rw [hW5]
                    clear hW5
                    refine hK _ _ (kp hb5) ?_
                    clear hK K
                    have a0 := hA5.cell 0; have a1 := hA5.cell 1; simp only [List.getElem?_cons_zero, List.getElem?_cons_succ] at a0 a1
                    have b0 := hC5.cell 0; have b1 := hC5.cell 1; have b2 := hC5.cell 2; simp only [List.getElem?_cons_zero, List.getElem?_cons_succ] at b0 b1 b2
                    have za := hA5.lt
                    have zb := hC5.lt
                    have f0 := hA5.frozen 0
                    have f1 := hA5.frozen 1
                    have f2 := hA5.frozen 2
                    have j0 := hC5.frozen 0
                    have j1 := hC5.frozen 1
                    have j2 := hC5.frozen 2
                    refine nextH (i := 10) (by kernel_rfl) rfl (fun K hK => ?_)
                    go_simp
                    obtain ⟨W6, hW6⟩ : ∃ W6, (W5.setCell ⟨W0.heap.size, 0, none⟩ (.int .i64 B)).setCell ⟨W0.heap.size, 1, none⟩ (.slice none 0 0) = W6 := ⟨_, rfl⟩
                    have hS6 : Blk W6 (W0.heap.size) 24 [.int .i64 B, .slice none 0 0] := by rw [← hW6]; exact (hA5.set_ 0 _).set_ 1 _
                    have hT6 : Blk W6 (W0.heap.size + 1) 30 [.slice none 0 0, .int .i64 0, .int .i64 0] := by rw [← hW6]; exact (hC5.far (by show W0.heap.size + 1 ≠ W0.heap.size; omega) _).far (by show W0.heap.size + 1 ≠ W0.heap.size; omega) _
                    have hb6 : Below W0.heap.size W0 W6 := by rw [← hW6]; exact (hb5.setCell (by show W0.heap.size ≤ W0.heap.size; omega) _).setCell (by show W0.heap.size ≤ W0.heap.size; omega) _
                    rw [hW6]
                    clear hW6 a0 a1 b0 b1 za zb f0 f1 f2 j0 j1 j2
                    refine hK _ _ (kp hb6) ?_
                    clear hK K
                    have b0 := hT6.cell 0; have b1 := hT6.cell 1; have b2 := hT6.cell 2; simp only [List.getElem?_cons_zero, List.getElem?_cons_succ] at b0 b1 b2
                    have j0 := hT6.frozen 0
                    have j1 := hT6.frozen 1
                    have j2 := hT6.frozen 2
                    have zb := hT6.lt
                    refine nextH (i := 11) (by kernel_rfl) rfl (fun K hK => ?_)
                    go_simp
                    obtain ⟨W7, hW7⟩ : ∃ W7, ((W6.setCell ⟨W0.heap.size + 1, 0, none⟩ (.slice none 0 0)).setCell ⟨W0.heap.size + 1, 1, none⟩ (.int .i64 af)).setCell ⟨W0.heap.size + 1, 2, none⟩ (.int .i64 wd) = W7 := ⟨_, rfl⟩
                    have hS7 : Blk W7 (W0.heap.size) 24 [.int .i64 B, .slice none 0 0] := by rw [← hW7]; exact ((hS6.far (by show W0.heap.size ≠ W0.heap.size + 1; omega) _).far (by show W0.heap.size ≠ W0.heap.size + 1; omega) _).far (by show W0.heap.size ≠ W0.heap.size + 1; omega) _
                    have hT7 : Blk W7 (W0.heap.size + 1) 30 [.slice none 0 0, .int .i64 af, .int .i64 wd] := by rw [← hW7]; exact ((hT6.set_ 0 _).set_ 1 _).set_ 2 _
                    have hb7 : Below W0.heap.size W0 W7 := by rw [← hW7]; exact ((hb6.setCell (by show W0.heap.size ≤ W0.heap.size + 1; omega) _).setCell (by show W0.heap.size ≤ W0.heap.size + 1; omega) _).setCell (by show W0.heap.size ≤ W0.heap.size + 1; omega) _
                    rw [hW7]
                    clear hW7
                    refine hK _ _ (kp hb7) ?_
                    clear hK K
                    refine wpAnyH_done (by kernel_rfl) ?_ _
                    go_wp2
                    go_meet
                    exact ⟨W0.heap.size, W0.heap.size + 1, rfl, rfl, by omega, by omega, hS7, hT7, hb7⟩
                  · go_simp
                    refine hK _ _ (kp (bel_alloc (Below.refl W0.heap.size W0) (Nat.le_refl _) (.cells #[.slice none 0 0, .int .i64 0, .int .i64 0] 30)).drew) ?_
                    clear hK K
                    refine nextH (i := 8) (by kernel_rfl) rfl (fun K hK => ?_)
                    go_simp
                    obtain ⟨W5, hW5⟩ : ∃ W5, ((W0.alloc (.cells #[.slice none 0 0, .int .i64 0, .int .i64 0] 30)).alloc (.cells #[.int .i64 0, .slice none 0 0] 24)).drew = W5 := ⟨_, rfl⟩
                    obtain ⟨hA5, hC5, hb5⟩ : Blk W5 W0.heap.size 30 [.slice none 0 0, .int .i64 0, .int .i64 0] ∧ Blk W5 (W0.heap.size + 1) 24 [.int .i64 0, .slice none 0 0] ∧ Below W0.heap.size W0 W5 := by
                      rw [← hW5]
                      have := two_new W0 30 24 [.slice none 0 0, .int .i64 0, .int .i64 0] [.int .i64 0, .slice none 0 0]
                      exact ⟨this.1, this.2.1, this.2.2.drew⟩
                    rw [hW5]
                    clear hW5
                    refine hK _ _ (kp hb5) ?_
                    clear hK K
                    have a0 := hA5.cell 0; have a1 := hA5.cell 1; have a2 := hA5.cell 2; simp only [List.getElem?_cons_zero, List.getElem?_cons_succ] at a0 a1 a2
                    have b0 := hC5.cell 0; have b1 := hC5.cell 1; simp only [List.getElem?_cons_zero, List.getElem?_cons_succ] at b0 b1
                    have za := hA5.lt
                    have zb := hC5.lt
                    have f0 := hA5.frozen 0
                    have f1 := hA5.frozen 1
                    have f2 := hA5.frozen 2
                    have j0 := hC5.frozen 0
                    have j1 := hC5.frozen 1
                    have j2 := hC5.frozen 2
                    refine nextH (i := 10) (by kernel_rfl) rfl (fun K hK => ?_)
                    go_simp
                    obtain ⟨W6, hW6⟩ : ∃ W6, (W5.setCell ⟨W0.heap.size + 1, 0, none⟩ (.int .i64 B)).setCell ⟨W0.heap.size + 1, 1, none⟩ (.slice none 0 0) = W6 := ⟨_, rfl⟩
                    have hS6 : Blk W6 (W0.heap.size + 1) 24 [.int .i64 B, .slice none 0 0] := by rw [← hW6]; exact (hC5.set_ 0 _).set_ 1 _
                    have hT6 : Blk W6 (W0.heap.size) 30 [.slice none 0 0, .int .i64 0, .int .i64 0] := by rw [← hW6]; exact (hA5.far (by show W0.heap.size ≠ W0.heap.size + 1; omega) _).far (by show W0.heap.size ≠ W0.heap.size + 1; omega) _
                    have hb6 : Below W0.heap.size W0 W6 := by rw [← hW6]; exact (hb5.setCell (by show W0.heap.size ≤ W0.heap.size + 1; omega) _).setCell (by show W0.heap.size ≤ W0.heap.size + 1; omega) _
                    rw [hW6]
                    clear hW6 a0 a1 b0 b1 za zb f0 f1 f2 j0 j1 j2
                    refine hK _ _ (kp hb6) ?_
                    clear hK K
                    have b0 := hT6.cell 0; have b1 := hT6.cell 1; have b2 := hT6.cell 2; simp only [List.getElem?_cons_zero, List.getElem?_cons_succ] at b0 b1 b2
                    have j0 := hT6.frozen 0
                    have j1 := hT6.frozen 1
                    have j2 := hT6.frozen 2
                    have zb := hT6.lt
                    refine nextH (i := 11) (by kernel_rfl) rfl (fun K hK => ?_)
                    go_simp
                    obtain ⟨W7, hW7⟩ : ∃ W7, ((W6.setCell ⟨W0.heap.size, 0, none⟩ (.slice none 0 0)).setCell ⟨W0.heap.size, 1, none⟩ (.int .i64 af)).setCell ⟨W0.heap.size, 2, none⟩ (.int .i64 wd) = W7 := ⟨_, rfl⟩
                    have hS7 : Blk W7 (W0.heap.size + 1) 24 [.int .i64 B, .slice none 0 0] := by rw [← hW7]; exact ((hS6.far (by show W0.heap.size + 1 ≠ W0.heap.size; omega) _).far (by show W0.heap.size + 1 ≠ W0.heap.size; omega) _).far (by show W0.heap.size + 1 ≠ W0.heap.size; omega) _
                    have hT7 : Blk W7 (W0.heap.size) 30 [.slice none 0 0, .int .i64 af, .int .i64 wd] := by rw [← hW7]; exact ((hT6.set_ 0 _).set_ 1 _).set_ 2 _
                    have hb7 : Below W0.heap.size W0 W7 := by rw [← hW7]; exact ((hb6.setCell (by show W0.heap.size ≤ W0.heap.size; omega) _).setCell (by show W0.heap.size ≤ W0.heap.size; omega) _).setCell (by show W0.heap.size ≤ W0.heap.size; omega) _
                    rw [hW7]
                    clear hW7
                    refine hK _ _ (kp hb7) ?_
                    clear hK K
                    refine wpAnyH_done (by kernel_rfl) ?_ _
                    go_wp2
                    go_meet
                    exact ⟨W0.heap.size + 1, W0.heap.size, rfl, rfl, by omega, by omega, hS7, hT7, hb7⟩
                obtain ⟨g1, g2, rfl, rfl, hg1, hg2, hS, hT, hbc⟩ := hcut
                obtain ⟨w4, rfl⟩ : ∃ w4 : World, w4 = wc := ⟨_, rfl⟩
                have hz4 := hbc.size
                have hFl := hF0.low
                have hHl := hH0.low
                have hVl := hV0.low
                have HNT := hide nt
                have HNV := hide nv
                have hn1 : 1 ≤ fs.length := by omega
                have hn8 : fs.length ≤ 8 := by omega
                have hNT1 : fs.length ≤ ts.length := by omega
                have hNV1 : fs.length ≤ vs.length := by omega
                have hbB := outB_false.1 hb
                have haA := outB_false.1 ha
                have hwW := outB_false.1 hw
                clear n0 n1 nt nv hb ha hw HWB HWA HWW c0 c1 c2 c3 c4 c5 c6 z0
                obtain ⟨q, hq⟩ : ∃ q, w4.heap.size = q := ⟨_, rfl⟩
                have hq1 : q ≤ w4.heap.size := by omega
                have hg1q : g1 < q := by have := hS.lt; omega
                have hg2q : g2 < q := by have := hT.lt; omega
                clear hq
                go_upto_region 5 with fail
                go_wp2
                go_loopw [8] (fun x wr => ∃ (k : Nat) (v1 v2 : Value), k ≤ fs.length ∧ x = .int .i64 k ∧ Below W0.heap.size W0 wr ∧ q ≤ wr.heap.size ∧ Blk wr g1 24 [.int .i64 B, v1] ∧ Blk wr g2 30 [v2, .int .i64 af, .int .i64 wd] ∧ wr.ownsRow q 47 2 v1 k (gs (slabK fs ts k)) ∧ wr.ownsRow q 55 3 v2 k (ps (bareL fs k)) ∧ Hid (∀ j, j < k → okS fs ts vs j)) (fun x _ => fs.length - (intOf x).toNat)
                case atStart => exact ⟨0, _, _, Nat.zero_le _, rfl, hbc, hq1, hS, hT, World.ownsRow_nil _ _ _ _, World.ownsRow_nil _ _ _ _, fun j h => by omega⟩
                case round =>
                  obtain ⟨k, v1, v2, hk, rfl, hbr, hqr, hSr, hTr, ho1, ho2, h0⟩ := hrel
                  have hXr := hX0.bel hbr
                  have hRr := hR0.bel hbr
                  have hT0r := hT0.bel hbr
                  have hBr := bel_tr hB0 (by omega) hbr
                  have hFr := hF0.bel hbr
                  have hHr := hH0.bel hbr
                  have hVr := hV0.bel hbr
                  have c0 := hXr.cell 0; have c1 := hXr.cell 1; have c2 := hXr.cell 2; have c3 := hXr.cell 3; have c4 := hXr.cell 4; have c5 := hXr.cell 5; have c6 := hXr.cell 6; simp only [List.getElem?_cons_zero, List.getElem?_cons_succ] at c0 c1 c2 c3 c4 c5 c6
                  have z0 := hXr.lt
                  by_cases hlt : k < fs.length
                  · obtain ⟨fb, fo, rfl, hfb, x0⟩ := hFr.int_at hlt
                    obtain ⟨hb, ho, rfl, hhb, x1⟩ := hHr.int_at (show k < ts.length by omega)
                    obtain ⟨vb, vo, rfl, hvb, x2⟩ := hVr.int_at (show k < vs.length by omega)
                    rw [← getD_at hlt 0] at x0
                    rw [← getD_at (show k < ts.length by omega) 0] at x1
                    rw [← getD_at (show k < vs.length by omega) 0] at x2
                    have HOK : Hid (okS fs ts vs k = (freqE (fs.getD k 0) = 0 ∧ (0 < k → fs.getD (k - 1) 0 < fs.getD k 0) ∧ outB (ts.getD k 0) 0 500 = false ∧ outB (vs.getD k 0) 0 1000 = false)) := rfl
                    have HSK := hide (slabK_succ fs ts k)
                    have HBK := hide (bareL_succ fs k)
                    have HFB : freqE (fs.getD k 0) = 0 → 1 ≤ fs.getD k 0 ∧ fs.getD k 0 ≤ 3000 := fun h => freqE_zero.1 h
                    have HPV : Hid (∀ j, j + 1 = k → ∃ e : j < fs.length, (ints fs)[j]? = some (.int .i64 (fs.getD j 0))) := fun j hj => ⟨by omega, by rw [ints_at (by omega), getD_at (by omega)]⟩
                    have HPC : Hid (∀ j, j + 1 = k → wr.cell? ⟨fb, fo + j, none⟩ = some (.int .i64 (fs.getD j 0))) := fun j hj => by
                      obtain ⟨b', o', e', _, h'⟩ := hFr.int_at (show j < fs.length by omega)
                      cases e'
                      rw [h', getD_at (show j < fs.length by omega)]
                    have HPD : Hid (∀ j, j + 1 = k → fs.getD (k - 1) 0 = fs.getD j 0) := fun j hj => by rw [show k - 1 = j by omega]
                    clear HPV
                    generalize fs.getD k 0 = f at x0 HOK HSK HBK HFB
                    generalize ts.getD k 0 = t at x1 HOK HSK
                    generalize vs.getD k 0 = v at x2 HOK
                    have i1 : (k : Int) < (fs.length : Int) := by omega
                    have i2 : (k : Int) < (ts.length : Int) := by omega
                    have i3 : (k : Int) < (vs.length : Int) := by omega
                    have HWT := hide (fun W => within_c t 0 500 W)
                    have HWV := hide (fun W => within_c v 0 1000 W)
                    go_upto_region 9 with fail
                    obtain ⟨bb, hbb⟩ : ∃ bb : Bool, decide (¬ okS fs ts vs k) = bb := ⟨_, rfl⟩
                    have HBT : Hid (¬ okS fs ts vs k → bb = true) := fun h => by rw [← hbb]; exact decide_eq_true h
                    have HBF : Hid (okS fs ts vs k → bb = false) := fun h => by rw [← hbb]; exact decide_eq_false (fun h' => h' h)
                    clear hbb
                    go_cut [107] from 63 to 130 (fun tt wx => tt = .bool bb ∧ wx = wr)
                    case first =>
                      by_cases hf : freqE f = 0
                      · have e5 : (freqE f != 0) = false := by simpa using hf
                        by_cases hk0 : k < 1
                        · have d1 : decide ((0 : Int) < (k : Int)) = false := decide_eq_false (by omega)
                          cases ht : outB t 0 500
                          case true =>
                            rw [ht] at HWT
                            have d2 : Hid (bb = true) := HBT.out (fun h => by rw [HOK.out] at h; have := h.2.2.1; rw [ht] at this; exact Bool.noConfusion this)
                            go_wp2_with (first | (go_at_call 40; refine (frequencyErr_c _ _).mono ?_; rintro e_ w_ ⟨rfl, rfl⟩) | (go_at_call 15; with_reducible refine (HWT.out _).mono ?_; rintro e_ w_ ⟨rfl, rfl⟩) | (go_at_call 15; with_reducible refine (HWV.out _).mono ?_; rintro e_ w_ ⟨rfl, rfl⟩))
                            go_meet
                            exact ⟨by rw [d2.out], rfl⟩
                          case false =>
                            rw [ht] at HWT
                            cases hv : outB v 0 1000
                            case true =>
                              rw [hv] at HWV
                              have d2 : Hid (bb = true) := HBT.out (fun h => by rw [HOK.out] at h; have := h.2.2.2; rw [hv] at this; exact Bool.noConfusion this)
                              go_wp2_with (first | (go_at_call 40; refine (frequencyErr_c _ _).mono ?_; rintro e_ w_ ⟨rfl, rfl⟩) | (go_at_call 15; with_reducible refine (HWT.out _).mono ?_; rintro e_ w_ ⟨rfl, rfl⟩) | (go_at_call 15; with_reducible refine (HWV.out _).mono ?_; rintro e_ w_ ⟨rfl, rfl⟩))
                              go_meet
                              exact ⟨by rw [d2.out], rfl⟩
                            case false =>
                              rw [hv] at HWV
                              have d2 : Hid (bb = false) := HBF.out (by rw [HOK.out]; exact ⟨hf, fun h => by omega, ht, hv⟩)
                              go_wp2_with (first | (go_at_call 40; refine (frequencyErr_c _ _).mono ?_; rintro e_ w_ ⟨rfl, rfl⟩) | (go_at_call 15; with_reducible refine (HWT.out _).mono ?_; rintro e_ w_ ⟨rfl, rfl⟩) | (go_at_call 15; with_reducible refine (HWV.out _).mono ?_; rintro e_ w_ ⟨rfl, rfl⟩))
                              go_meet
                              exact ⟨by rw [d2.out], rfl⟩
                        · obtain ⟨j, hj⟩ : ∃ j, j + 1 = k := ⟨k - 1, by omega⟩
                          have d1 : decide ((0 : Int) < (k : Int)) = true := decide_eq_true (by omega)
                          have hd0 := HPC.out j hj
                          have HPJ := hide (HPD.out j hj)
                          generalize fs.getD j 0 = f' at hd0 HPJ
                          have v1 : IntKind.i64.wrap ((k : Int) - 1) = (j : Int) := by rw [show (k : Int) - 1 = (j : Int) by omega]; simp (disch := omega) only [IntWalk.i64_in]
                          have i4 : (0 : Int) ≤ (j : Int) := by omega
                          have i5 : (j : Int) < (fs.length : Int) := by omega
                          by_cases hp' : f ≤ f'
                          · have e6 : decide (f ≤ f') = true := decide_eq_true hp'
                            have d2 : Hid (bb = true) := HBT.out (fun h => by rw [HOK.out] at h; have := h.2.1 (by omega); rw [HPJ.out] at this; omega)
                            go_wp2_with (first | (go_at_call 40; refine (frequencyErr_c _ _).mono ?_; rintro e_ w_ ⟨rfl, rfl⟩) | (go_at_call 15; with_reducible refine (HWT.out _).mono ?_; rintro e_ w_ ⟨rfl, rfl⟩) | (go_at_call 15; with_reducible refine (HWV.out _).mono ?_; rintro e_ w_ ⟨rfl, rfl⟩))
                            go_meet
                            exact ⟨by rw [d2.out], rfl⟩
                          · have e6 : decide (f ≤ f') = false := decide_eq_false hp'
                            cases ht : outB t 0 500
                            case true =>
                              rw [ht] at HWT
                              have d2 : Hid (bb = true) := HBT.out (fun h => by rw [HOK.out] at h; have := h.2.2.1; rw [ht] at this; exact Bool.noConfusion this)
                              go_wp2_with (first | (go_at_call 40; refine (frequencyErr_c _ _).mono ?_; rintro e_ w_ ⟨rfl, rfl⟩) | (go_at_call 15; with_reducible refine (HWT.out _).mono ?_; rintro e_ w_ ⟨rfl, rfl⟩) | (go_at_call 15; with_reducible refine (HWV.out _).mono ?_; rintro e_ w_ ⟨rfl, rfl⟩))
                              go_meet
                              exact ⟨by rw [d2.out], rfl⟩
                            case false =>
                              rw [ht] at HWT
                              cases hv : outB v 0 1000
                              case true =>
                                rw [hv] at HWV
                                have d2 : Hid (bb = true) := HBT.out (fun h => by rw [HOK.out] at h; have := h.2.2.2; rw [hv] at this; exact Bool.noConfusion this)
                                go_wp2_with (first | (go_at_call 40; refine (frequencyErr_c _ _).mono ?_; rintro e_ w_ ⟨rfl, rfl⟩) | (go_at_call 15; with_reducible refine (HWT.out _).mono ?_; rintro e_ w_ ⟨rfl, rfl⟩) | (go_at_call 15; with_reducible refine (HWV.out _).mono ?_; rintro e_ w_ ⟨rfl, rfl⟩))
                                go_meet
                                exact ⟨by rw [d2.out], rfl⟩
                              case false =>
                                rw [hv] at HWV
                                have d2 : Hid (bb = false) := HBF.out (by rw [HOK.out]; exact ⟨hf, fun _ => by rw [HPJ.out]; omega, ht, hv⟩)
                                go_wp2_with (first | (go_at_call 40; refine (frequencyErr_c _ _).mono ?_; rintro e_ w_ ⟨rfl, rfl⟩) | (go_at_call 15; with_reducible refine (HWT.out _).mono ?_; rintro e_ w_ ⟨rfl, rfl⟩) | (go_at_call 15; with_reducible refine (HWV.out _).mono ?_; rintro e_ w_ ⟨rfl, rfl⟩))
                                go_meet
                                exact ⟨by rw [d2.out], rfl⟩
                      · have e5 : (freqE f != 0) = true := by simpa using hf
                        have d2 : Hid (bb = true) := HBT.out (fun h => by rw [HOK.out] at h; exact hf h.1)
                        go_wp2_with (first | (go_at_call 40; refine (frequencyErr_c _ _).mono ?_; rintro e_ w_ ⟨rfl, rfl⟩) | (go_at_call 15; with_reducible refine (HWT.out _).mono ?_; rintro e_ w_ ⟨rfl, rfl⟩) | (go_at_call 15; with_reducible refine (HWV.out _).mono ?_; rintro e_ w_ ⟨rfl, rfl⟩))
                        go_meet
                        exact ⟨by rw [d2.out], rfl⟩
                    obtain ⟨rfl, rfl⟩ := hcut
                    by_cases hok : okS fs ts vs k
                    · have hbf := HBF.out hok
                      subst hbf
                      have H1 : Hid (∀ j, j < k + 1 → okS fs ts vs j) := fun j hj => by
                        rcases Nat.lt_or_ge j k with h | h
                        · exact h0.out j h
                        · have : j = k := by omega
                          subst this; exact hok
                      have hfb2 := HFB (by rw [HOK.out] at hok; exact hok.1)
                      have hff := mul_bd (show 0 ≤ f by omega) hfb2.2 (show 0 ≤ f by omega) hfb2.2
                      have u5 : IntKind.i64.wrap (f * f) = f * f := by simp (disch := omega) only [IntWalk.i64_in]
                      clear hok HOK HBT HBF HPC HPD HWT HWV HFB
                      obtain ⟨A1, c1', rfl⟩ := ownsRow_slice ho1
                      obtain ⟨A2, c2', rfl⟩ := ownsRow_slice ho2
                      obtain ⟨i0, hi, iz0, iz1, iz2⟩ := info_parts Try.infoS
                      have s1 := hSr.cell 1
                      have s2 := hSr.frozen 1
                      simp only [List.getElem?_cons_zero, List.getElem?_cons_succ] at s1
                      have zs := hSr.lt
                      have zt2 := hTr.lt
                      go_upto_region 11 with fail
                      refine wp_region_M (fun w' => w'.cell? ⟨g1, 1, none⟩ = some (.slice A1 k c1') ∧ w'.cell? ⟨p, 1, none⟩ = some (.slice (some ⟨hb, ho, none⟩) ts.length hc) ∧ w'.cell? ⟨hb, ho + k, none⟩ = some (.int .i64 t)) 14 (by kernel_rfl) ?_
                      have hSd : wc.drew.cell? ⟨g1, 1, none⟩ = some (.slice A1 k c1') ∧ wc.drew.cell? ⟨p, 1, none⟩ = some (.slice (some ⟨hb, ho, none⟩) ts.length hc) ∧ wc.drew.cell? ⟨hb, ho + k, none⟩ = some (.int .i64 t) := ⟨s1, c1, x1⟩
                      refine AnyM.take (i := 0) (v := ?_) rfl (by kernel_rfl) (by kernel_rfl) (by kernel_rfl) (by kernel_rfl) (fun _ _ _ h => h) (Or.inl ⟨by rfl, ?_⟩) (by assumption) ?_
                      rotate_left 1
                      · (intro w hSw; obtain ⟨hk1, hk2, hk3⟩ := hSw; go_simp <;> with_reducible rfl)
                      simp only [Act.put, List.getElem_toArray, List.getElem_cons_zero, List.setIfInBounds_toArray, List.set_cons_zero, List.set_cons_succ]
                      refine AnyM.take (i := 1) (v := ?_) rfl (by kernel_rfl) (by kernel_rfl) (by kernel_rfl) (by kernel_rfl) (fun _ _ _ h => h) (Or.inl ⟨by rfl, ?_⟩) (by assumption) ?_
                      rotate_left 1
                      · (intro w hSw; obtain ⟨hk1, hk2, hk3⟩ := hSw; go_simp <;> with_reducible rfl)
                      simp only [Act.put, List.getElem_toArray, List.getElem_cons_zero, List.getElem_cons_succ, List.setIfInBounds_toArray, List.set_cons_zero, List.set_cons_succ]
                      refine AnyM.take (i := 2) (v := ?_) rfl (by kernel_rfl) (by kernel_rfl) (by kernel_rfl) (by kernel_rfl) (fun _ _ _ h => h) (Or.inl ⟨by rfl, ?_⟩) (by assumption) ?_
                      rotate_left 1
                      · (intro w hSw; obtain ⟨hk1, hk2, hk3⟩ := hSw; go_simp <;> with_reducible rfl)
                      simp only [Act.put, List.getElem_toArray, List.getElem_cons_zero, List.getElem_cons_succ, List.setIfInBounds_toArray, List.set_cons_zero, List.set_cons_succ]
                      refine AnyM.take (i := 3) (v := ?_) rfl (by kernel_rfl) (by kernel_rfl) (by kernel_rfl) (by kernel_rfl) (fun _ _ _ h => h) (Or.inl ⟨by rfl, ?_⟩) (by assumption) ?_
                      rotate_left 1
                      · (intro w hSw; obtain ⟨hk1, hk2, hk3⟩ := hSw; go_simp <;> with_reducible rfl)
                      simp only [Act.put, List.getElem_toArray, List.getElem_cons_zero, List.getElem_cons_succ, List.setIfInBounds_toArray, List.set_cons_zero, List.set_cons_succ]
                      refine AnyM.take (i := 4) (v := ?_) rfl (by kernel_rfl) (by kernel_rfl) (by kernel_rfl) (by kernel_rfl) (fun _ _ _ h => h) (Or.inl ⟨by rfl, ?_⟩) (by assumption) ?_
                      rotate_left 1
                      · (intro w hSw; obtain ⟨hk1, hk2, hk3⟩ := hSw; go_simp <;> with_reducible rfl)
                      simp only [Act.put, List.getElem_toArray, List.getElem_cons_zero, List.getElem_cons_succ, List.setIfInBounds_toArray, List.set_cons_zero, List.set_cons_succ]
                      refine AnyM.take (i := 5) (v := ?_) rfl (by kernel_rfl) (by kernel_rfl) (by kernel_rfl) (by kernel_rfl) (fun _ _ _ h => h) (Or.inl ⟨by rfl, ?_⟩) (by assumption) ?_
                      rotate_left 1
                      · (intro w hSw; obtain ⟨hk1, hk2, hk3⟩ := hSw; go_simp <;> with_reducible rfl)
                      simp only [Act.put, List.getElem_toArray, List.getElem_cons_zero, List.getElem_cons_succ, List.setIfInBounds_toArray, List.set_cons_zero, List.set_cons_succ]
                      refine AnyM.take (i := 6) (v := ?_) rfl (by kernel_rfl) (by kernel_rfl) (by kernel_rfl) (by kernel_rfl) (fun _ _ _ h => h) (Or.inl ⟨by rfl, ?_⟩) (by assumption) ?_
                      rotate_left 1
                      · (intro w hSw; obtain ⟨hk1, hk2, hk3⟩ := hSw; go_simp <;> with_reducible rfl)
                      simp only [Act.put, List.getElem_toArray, List.getElem_cons_zero, List.getElem_cons_succ, List.setIfInBounds_toArray, List.set_cons_zero, List.set_cons_succ]
                      refine AnyM.take (i := 7) (v := ?_) rfl (by kernel_rfl) (by kernel_rfl) (by kernel_rfl) (by kernel_rfl) (fun _ _ _ h => h) (Or.inl ⟨by rfl, ?_⟩) (by assumption) ?_
                      rotate_left 1
                      · (intro w hSw; obtain ⟨hk1, hk2, hk3⟩ := hSw; go_simp <;> with_reducible rfl)
                      simp only [Act.put, List.getElem_toArray, List.getElem_cons_zero, List.getElem_cons_succ, List.setIfInBounds_toArray, List.set_cons_zero, List.set_cons_succ]
                      refine AnyM.take (i := 8) (v := ?_) rfl (by kernel_rfl) (by kernel_rfl) (by kernel_rfl) (by kernel_rfl) (fun _ _ _ h => h) (Or.inl ⟨by rfl, ?_⟩) (by assumption) ?_
                      rotate_left 1
                      · (intro w hSw; obtain ⟨hk1, hk2, hk3⟩ := hSw; go_simp <;> with_reducible rfl)
                      simp only [Act.put, List.getElem_toArray, List.getElem_cons_zero, List.getElem_cons_succ, List.setIfInBounds_toArray, List.set_cons_zero, List.set_cons_succ]
                      refine AnyM.take (i := 9) (v := ?_) rfl (by kernel_rfl) (by kernel_rfl) (by kernel_rfl) (by kernel_rfl) (fun _ _ _ h => h) (Or.inl ⟨by rfl, ?_⟩) (by assumption) ?_
                      rotate_left 1
                      · (intro w hSw; obtain ⟨hk1, hk2, hk3⟩ := hSw; go_simp <;> with_reducible rfl)
                      simp only [Act.put, List.getElem_toArray, List.getElem_cons_zero, List.getElem_cons_succ, List.setIfInBounds_toArray, List.set_cons_zero, List.set_cons_succ]
                      refine AnyM.take (i := 10) (v := ?_) rfl (by kernel_rfl) (by kernel_rfl) (by kernel_rfl) (by kernel_rfl) (fun _ _ _ h => h) (Or.inl ⟨by rfl, ?_⟩) (by assumption) ?_
                      rotate_left 1
                      · (intro w hSw; obtain ⟨hk1, hk2, hk3⟩ := hSw; go_simp <;> with_reducible rfl)
                      simp only [Act.put, List.getElem_toArray, List.getElem_cons_zero, List.getElem_cons_succ, List.setIfInBounds_toArray, List.set_cons_zero, List.set_cons_succ]
                      refine AnyM.next [11] (by kernel_rfl) (by simp) ?_
                      refine NextM.cons rfl (fun K hK => ?_) NextM.nil
                      go_simp
                      obtain ⟨W5, hW5⟩ : ∃ W5, (wc.alloc (.cells #[.int .i64 (f * f), .int .i64 t] 47)).drew = W5 := ⟨_, rfl⟩
                      have hb5 : Below wc.heap.size wc W5 := by rw [← hW5]; exact (alloc_bel _ _).drew
                      have hrd5 : Rd W5 (some ⟨wc.heap.size, 0, none⟩) (gs [(f * f, t)]) := by rw [← hW5]; exact (Blk.new wc 47 [.int .i64 (f * f), .int .i64 t]).rd (List.prefix_refl _)
                      have ho15 := ownsRow_bel ho1 hb5
                      have ho25 := ownsRow_bel ho2 hb5
                      have hS5 := hSr.bel hb5
                      have hT5 := hTr.bel hb5
                      have hX5 := hXr.bel hb5
                      have hs5 : q ≤ W5.heap.size := by have := hb5.size; omega
                      have hs5' := hb5.size
                      have hc5 := (hb5.cell (p := ⟨hb, ho + k, none⟩) hhb).trans x1
                      rw [hW5]
                      clear hW5 hSd
                      try dsimp only
                      refine hK _ _ (fun _ => ⟨hS5.cell 1, hX5.cell 1, hc5⟩) ?_
                      clear hK K
                      refine AnyM.next [12] (by kernel_rfl) (by simp) ?_
                      refine NextM.cons rfl (fun K hK => ?_) NextM.nil
                      refine step_append_rd _ (by rfl) _ _ _ (by rfl) q 47 i0 _ 2 16 Try.underlying22 hi iz0 iz1 iz2 rfl (by decide) (.slice A1 k c1') k _ (by rfl) ho15 (some ⟨wc.heap.size, 0, none⟩) 1 1 (gs [(f * f, t)]) (by rfl) (by simp) hrd5 (gs_one _) (by unfold maxLen; omega) (by omega) hs5 ?_
                      intro v6 W6 ho16 hg6
                      obtain ⟨A6, c6', rfl⟩ := ownsRow_slice ho16
                      have hlt5 := ho15.lt
                      have ho26 := row_grown0 ho25 ho15 (by decide) hg6
                      have hS6 : Blk W6 g1 24 [.int .i64 B, .slice A1 k c1'] := (hg6.block g1 hS5.lt (fun e => by have := (hlt5 g1 e.symm).1; omega)).trans hS5
                      have hT6 : Blk W6 g2 30 [.slice A2 k c2', .int .i64 af, .int .i64 wd] := (hg6.block g2 hT5.lt (fun e => by have := (hlt5 g2 e.symm).1; omega)).trans hT5
                      have hB6 : Below W0.heap.size W0 W6 := (hbr.trans (hb5.mono (by omega))).grown hg6 (by omega) (fun j hj => by have := (hlt5 j hj).1; omega)
                      have hX6 := hX0.bel hB6
                      have hhb0 : hb < W0.heap.size := hHl (by intro h; have h2 := congrArg List.length h; rw [ints_length, List.length_nil] at h2; omega) hb ho rfl
                      have hq6 : q ≤ W6.heap.size := by have := hg6.size; omega
                      have hc6 : W6.cell? ⟨hb, ho + k, none⟩ = some (.int .i64 t) := (World.cell?_of_block (hg6.block hb (by omega) (fun e => by have := (hlt5 hb e.symm).1; omega))).trans hc5
                      simp only [Act.put, List.getElem_toArray, List.getElem_cons_zero, List.getElem_cons_succ, List.setIfInBounds_toArray, List.set_cons_zero, List.set_cons_succ]
                      refine hK _ _ (fun _ => ⟨hS6.cell 1, hX6.cell 1, hc6⟩) ?_
                      clear hK K
                      refine AnyM.next [13] (by kernel_rfl) (by simp) ?_
                      refine NextM.cons rfl (fun K hK => ?_) NextM.nil
                      go_simp
                      refine hK _ _ (fun _ => ⟨hS6.cell 1, hX6.cell 1, hc6⟩) ?_
                      clear hK K
                      have m0 := hS6.cell 1
                      have m1 := hS6.frozen 1
                      have m2 := hS6.lt
                      simp only [List.getElem?_cons_zero, List.getElem?_cons_succ] at m0
                      refine AnyM.next [14] (by kernel_rfl) (by simp) ?_
                      refine NextM.cons rfl (fun K hK => ?_) NextM.nil
                      go_simp
                      refine hK _ _ (fun h => by simp at h) ?_
                      clear hK K
                      refine AnyM.done (by kernel_rfl) ?_ _
                      obtain ⟨W7, hW7⟩ : ∃ W7, W6.setCell ⟨g1, 1, none⟩ (.slice A6 (k + 1) c6') = W7 := ⟨_, rfl⟩
                      have hS7 : Blk W7 g1 24 [.int .i64 B, .slice A6 (k + 1) c6'] := by rw [← hW7]; exact hS6.set_ 1 _
                      have hne12 : g2 ≠ g1 := fun e => by
                        have h1 := hS6
                        have h2 := hT6
                        rw [e] at h2
                        unfold Blk at h1 h2
                        rw [h1] at h2
                        simp at h2
                      have hT7 : Blk W7 g2 30 [.slice A2 k c2', .int .i64 af, .int .i64 wd] := by rw [← hW7]; exact hT6.far hne12 _
                      have ho17 : W7.ownsRow q 47 2 (.slice A6 (k + 1) c6') (k + 1) (gs (slabK fs ts (k + 1))) := by rw [← hW7, HSK.out, gs_append]; exact own_set ho16 hg1q 1 _
                      have ho27 : W7.ownsRow q 55 3 (.slice A2 k c2') k (ps (bareL fs k)) := by rw [← hW7]; exact own_set ho26 hg1q 1 _
                      have hB7 : Below W0.heap.size W0 W7 := by rw [← hW7]; exact hB6.setCell hg1 _
                      have hq7 : q ≤ W7.heap.size := by rw [← hW7]; simpa [World.setCell] using hq6
                      rw [hW7]
                      clear hW7 m0 m1 m2 s1 s2 zs zt2 hX6 hc6 c0 c1 c2 c3 c4 c5 c6 x0 x1 x2 z0
                      obtain ⟨i0', hi', iz0', iz1', iz2'⟩ := info_parts Try.infoP
                      have s1 := hT7.cell 0
                      simp only [List.getElem?_cons_zero] at s1
                      have zs := hT7.lt
                      go_wp2_with (at_builtin; refine wpList_append_own _ rfl _ _ 28 rfl q 55 i0' _ 3 24 Try.underlying28 hi' iz0' iz1' iz2' rfl (by decide) _ _ _ rfl (ho27.alloc _) ⟨W7.heap.size, 0, none⟩ 1 1 [.int .i64 f, .int .i64 0, .int .i64 0] rfl rfl (World.news_of_block (heap_alloc_new W7 _)) (by simp [Value.oneCell']) (by unfold maxLen; omega) (by omega) (by simp; omega) ?_; intro v' w8 ho28 hg8 _; obtain ⟨A8, c8, rfl⟩ := ownsRow_slice ho28; have hT8 := blk_grown hT7 ho27 (by decide) hg8; have n0 := hT8.cell 0; have n1 := hT8.frozen 0; have n2 := hT8.lt; simp only [List.getElem?_cons_zero] at n0)
                      have ho18 := row_grown ho17 ho27 (by decide) hg8
                      have hS8 := blk_grown hS7 ho27 (by decide) hg8
                      have hB8 : Below W0.heap.size W0 w8 := (bel_alloc hB7 (by omega) _).grown hg8 (by simp; omega) (fun j hj => by have := (ho27.lt j hj).1; omega)
                      have hq8 : q ≤ w8.heap.size := by have := hg8.size; simp at this; omega
                      go_roundw
                      case rel => exact ⟨k + 1, _, _, by omega, by go_num, hB8.setCell hg2 _, by simpa [World.setCell] using hq8, hS8.far (Ne.symm hne12) _, hT8.set_ 0 _, own_set ho18 hg2q 0 _, by rw [HBK.out, ps_append]; exact own_set ho28 hg2q 0 _, H1⟩
                      case measure => simp [intOf]; omega
                    · have hbt := HBT.out hok
                      subst hbt
                      clear hok HOK HBT HBF HPC HPD HWT HWV HFB
                      have k0 := hRr.cell 0
                      have k1 := hRr.cell 1
                      have k2 := hT0r.cell 0
                      have k3 := hT0r.cell 1
                      have k4 := hT0r.cell 2
                      simp only [List.getElem?_cons_zero, List.getElem?_cons_succ] at k0 k1 k2 k3 k4
                      have fz0 := hRr.frozen 0
                      have fz1 := hRr.frozen 1
                      have fz2 := hT0r.frozen 0
                      have fz3 := hT0r.frozen 1
                      have fz4 := hT0r.frozen 2
                      have zt := hRr.lt
                      have zr := hT0r.lt
                      go_wp2_with (first | (go_at_call 15; with_reducible refine (HWB.out _).mono ?_; rintro e_ w_ ⟨rfl, rfl⟩) | (go_at_call 15; with_reducible refine (HWA.out _).mono ?_; rintro e_ w_ ⟨rfl, rfl⟩) | (go_at_call 15; with_reducible refine (HWW.out _).mono ?_; rintro e_ w_ ⟨rfl, rfl⟩) | (go_at_call 40; refine (frequencyErr_c _ _).mono ?_; rintro e_ w_ ⟨rfl, rfl⟩) | (go_at_call 15; with_reducible refine (HWT.out _).mono ?_; rintro e_ w_ ⟨rfl, rfl⟩) | (go_at_call 15; with_reducible refine (HWV.out _).mono ?_; rintro e_ w_ ⟨rfl, rfl⟩))
                      obtain ⟨WE, hWE⟩ : ∃ WE, ((((wc.setCell ⟨p + 1, 0, none⟩ (.int .i64 0)).setCell ⟨p + 1, 1, none⟩ (.slice none 0 0)).setCell ⟨p + 2, 0, none⟩ (.slice none 0 0)).setCell ⟨p + 2, 1, none⟩ (.int .i64 0)).setCell ⟨p + 2, 2, none⟩ (.int .i64 0) = WE := ⟨_, rfl⟩
                      rw [hWE]
                      have hE : Blk WE (p + 1) 24 [.int .i64 0, .slice none 0 0] := by rw [← hWE]; exact ((((hRr.set_ 0 _).set_ 1 _).far (by show p + 1 ≠ p + 2; omega) _).far (by show p + 1 ≠ p + 2; omega) _).far (by show p + 1 ≠ p + 2; omega) _
                      have hE2 : Blk WE (p + 2) 30 [.slice none 0 0, .int .i64 0, .int .i64 0] := by rw [← hWE]; exact (((((hT0r.far (by show p + 2 ≠ p + 1; omega) _).far (by show p + 2 ≠ p + 1; omega) _).set_ 0 _).set_ 1 _).set_ 2 _)
                      have hBE : Below p w WE := by rw [← hWE]; exact ((((hBr.setCell (by show p ≤ p + 1; omega) _).setCell (by show p ≤ p + 1; omega) _).setCell (by show p ≤ p + 2; omega) _).setCell (by show p ≤ p + 2; omega) _).setCell (by show p ≤ p + 2; omega) _
                      clear hWE
                      have g0 := hE.cell 0; have g1 := hE.cell 1; simp only [List.getElem?_cons_zero, List.getElem?_cons_succ] at g0 g1
                      have e0 := hE2.cell 0; have e1 := hE2.cell 1; have e2 := hE2.cell 2; simp only [List.getElem?_cons_zero, List.getElem?_cons_succ] at e0 e1 e2
                      exact bodyPost_ret (v := .tuple #[.agg #[.int .i64 0, .slice none 0 0], .agg #[.slice none 0 0, .int .i64 0, .int .i64 0], .bool false]) (by simp [results, Try.results14, go_sem, g0, g1, e0, e1, e2]; try rfl) rfl ⟨.inl rfl, by rw [hp]; exact hBE⟩
                  · obtain rfl : k = fs.length := by omega
                    obtain ⟨a, rfl⟩ : ∃ a : Nat, af = (a : Int) := ⟨af.toNat, by omega⟩
                    have han : a < fs.length := by omega
                    obtain ⟨fb, fo, rfl, hfb, x0⟩ := hFr.int_at han
                    rw [← getD_at han 0] at x0
                    have hok := h0.out a han
                    have hfa := freqE_zero.1 hok.1
                    have HPRE : Hid (SampPre fs ts vs B (a : Int) wd) := ⟨hn1, hn8, HNT.out, HNV.out, hbB.1, hbB.2, by omega, by omega, hwW.1, hwW.2, fun k hk => freqE_zero.1 (h0.out k hk).1, fun k hk => by have := (h0.out (k + 1) hk).2.1 (by omega); simpa using this, fun k hk => outB_false.1 (h0.out k hk).2.2.1, fun k hk => outB_false.1 (h0.out k hk).2.2.2⟩
                    have HSQ : Hid (fs.getD (a : Int).toNat 0 = fs.getD a 0) := rfl
                    generalize fs.getD a 0 = f at x0 hfa HSQ
                    have hff := mul_bd (show 0 ≤ f by omega) hfa.2 (show 0 ≤ f by omega) hfa.2
                    have u5 : IntKind.i64.wrap (f * f) = f * f := by simp (disch := omega) only [IntWalk.i64_in]
                    have u6 : IntKind.i64.wrap (f * f - 1) = f * f - 1 := by simp (disch := omega) only [IntWalk.i64_in]
                    have i1 : (a : Int) < (fs.length : Int) := by omega
                    have HWQ := hide (fun W => within_c sq 0 (f * f - 1) W)
                    obtain ⟨ans, hans⟩ : ∃ ans, (!(outB sq 0 (f * f - 1))) = ans := ⟨_, rfl⟩
                    rw [hans] at HWQ
                    have HANS := hide hans
                    clear hans
                    clear hok HNT HNV hbB hwW h0
                    obtain ⟨A1, c1', rfl⟩ := ownsRow_slice ho1
                    obtain ⟨A2, c2', rfl⟩ := ownsRow_slice ho2
                    have s0 := hSr.cell 0; have s1 := hSr.cell 1; simp only [List.getElem?_cons_zero, List.getElem?_cons_succ] at s0 s1
                    have t0 := hTr.cell 0; have t1 := hTr.cell 1; have t2 := hTr.cell 2; simp only [List.getElem?_cons_zero, List.getElem?_cons_succ] at t0 t1 t2
                    have zs := hSr.lt
                    have zt := hTr.lt
                    have fz0 := hRr.frozen 0
                    have fz1 := hRr.frozen 1
                    have fz2 := hT0r.frozen 0
                    have fz3 := hT0r.frozen 1
                    have fz4 := hT0r.frozen 2
                    have k0 := hRr.cell 0
                    have k1 := hRr.cell 1
                    have k2 := hT0r.cell 0
                    have k3 := hT0r.cell 1
                    have k4 := hT0r.cell 2
                    simp only [List.getElem?_cons_zero, List.getElem?_cons_succ] at k0 k1 k2 k3 k4
                    have zr := hRr.lt
                    have zt0 := hT0r.lt
                    go_upto_region 13 with fail
                    have hfb0 : fb < W0.heap.size := hFl (by intro h; have h2 := congrArg List.length h; rw [ints_length, List.length_nil] at h2; omega) fb fo rfl
                    have hfbp : fb < p := by have := hF.low (by intro h; have h2 := congrArg List.length h; rw [ints_length, List.length_nil] at h2; omega) fb fo rfl; omega
                    refine wp_region_held (S := fun w' => w'.cell? ⟨g1, 0, none⟩ = some (.int .i64 B) ∧ w'.cell? ⟨g1, 1, none⟩ = some (.slice A1 fs.length c1') ∧ w'.cell? ⟨g2, 0, none⟩ = some (.slice A2 fs.length c2') ∧ w'.cell? ⟨g2, 1, none⟩ = some (.int .i64 (a : Int)) ∧ w'.cell? ⟨g2, 2, none⟩ = some (.int .i64 wd) ∧ w'.cell? ⟨p, 0, none⟩ = some (.slice (some ⟨fb, fo, none⟩) fs.length fc) ∧ w'.cell? ⟨p, 4, none⟩ = some (.int .i64 (a : Int)) ∧ w'.cell? ⟨p, 6, none⟩ = some (.int .i64 sq) ∧ w'.cell? ⟨fb, fo + a, none⟩ = some (.int .i64 f)) (by kernel_rfl) ?_
                    have hSd : wr.drew.cell? ⟨g1, 0, none⟩ = some (.int .i64 B) ∧ wr.drew.cell? ⟨g1, 1, none⟩ = some (.slice A1 fs.length c1') ∧ wr.drew.cell? ⟨g2, 0, none⟩ = some (.slice A2 fs.length c2') ∧ wr.drew.cell? ⟨g2, 1, none⟩ = some (.int .i64 (a : Int)) ∧ wr.drew.cell? ⟨g2, 2, none⟩ = some (.int .i64 wd) ∧ wr.drew.cell? ⟨p, 0, none⟩ = some (.slice (some ⟨fb, fo, none⟩) fs.length fc) ∧ wr.drew.cell? ⟨p, 4, none⟩ = some (.int .i64 (a : Int)) ∧ wr.drew.cell? ⟨p, 6, none⟩ = some (.int .i64 sq) ∧ wr.drew.cell? ⟨fb, fo + a, none⟩ = some (.int .i64 f) := ⟨s0, s1, t0, t1, t2, c0, c4, c6, x0⟩
                    change wpAnyH _ _ _ _ _ _ _ _ wr.drew
                    refine wpAnyH_take (i := 0) (v := ?_) rfl (by kernel_rfl) (by kernel_rfl) (by kernel_rfl) (fun _ _ _ h => h) (Or.inl ⟨by kernel_rfl, ?_⟩) (by assumption) ?_
                    rotate_left 1
                    · (intro w hSw; obtain ⟨hk1, hk2, hk3, hk4, hk5, hk6, hk7, hk8, hk9⟩ := hSw; go_simp <;> with_reducible rfl)
                    simp only [Act.put, List.getElem_toArray, List.getElem_cons_zero, List.setIfInBounds_toArray, List.set_cons_zero, List.set_cons_succ]
                    refine wpAnyH_take (i := 1) (v := ?_) rfl (by kernel_rfl) (by kernel_rfl) (by kernel_rfl) (fun _ _ _ h => h) (Or.inl ⟨by kernel_rfl, ?_⟩) (by assumption) ?_
                    rotate_left 1
                    · (intro w hSw; obtain ⟨hk1, hk2, hk3, hk4, hk5, hk6, hk7, hk8, hk9⟩ := hSw; go_simp <;> with_reducible rfl)
                    simp only [Act.put, List.getElem_toArray, List.getElem_cons_zero, List.getElem_cons_succ, List.setIfInBounds_toArray, List.set_cons_zero, List.set_cons_succ]
                    refine wpAnyH_take (i := 2) (v := ?_) rfl (by kernel_rfl) (by kernel_rfl) (by kernel_rfl) (fun _ _ _ h => h) (Or.inl ⟨by kernel_rfl, ?_⟩) (by assumption) ?_
                    rotate_left 1
                    · (intro w hSw; obtain ⟨hk1, hk2, hk3, hk4, hk5, hk6, hk7, hk8, hk9⟩ := hSw; go_simp <;> with_reducible rfl)
                    simp only [Act.put, List.getElem_toArray, List.getElem_cons_zero, List.getElem_cons_succ, List.setIfInBounds_toArray, List.set_cons_zero, List.set_cons_succ]
                    refine wpAnyH_take (i := 3) (v := ?_) rfl (by kernel_rfl) (by kernel_rfl) (by kernel_rfl) (fun _ _ _ h => h) (Or.inl ⟨by kernel_rfl, ?_⟩) (by assumption) ?_
                    rotate_left 1
                    · (intro w hSw; obtain ⟨hk1, hk2, hk3, hk4, hk5, hk6, hk7, hk8, hk9⟩ := hSw; go_simp <;> with_reducible rfl)
                    simp only [Act.put, List.getElem_toArray, List.getElem_cons_zero, List.getElem_cons_succ, List.setIfInBounds_toArray, List.set_cons_zero, List.set_cons_succ]
                    refine wpAnyH_take (i := 4) (v := ?_) rfl (by kernel_rfl) (by kernel_rfl) (by kernel_rfl) (fun _ _ _ h => h) (Or.inl ⟨by kernel_rfl, ?_⟩) (by assumption) ?_
                    rotate_left 1
                    · (intro w hSw; obtain ⟨hk1, hk2, hk3, hk4, hk5, hk6, hk7, hk8, hk9⟩ := hSw; go_simp <;> with_reducible rfl)
                    simp only [Act.put, List.getElem_toArray, List.getElem_cons_zero, List.getElem_cons_succ, List.setIfInBounds_toArray, List.set_cons_zero, List.set_cons_succ]
                    refine wpAnyH_take (i := 5) (v := ?_) rfl (by kernel_rfl) (by kernel_rfl) (by kernel_rfl) (fun _ _ _ h => h) (Or.inl ⟨by kernel_rfl, ?_⟩) (by assumption) ?_
                    rotate_left 1
                    · (intro w hSw; obtain ⟨hk1, hk2, hk3, hk4, hk5, hk6, hk7, hk8, hk9⟩ := hSw; go_simp <;> with_reducible rfl)
                    simp only [Act.put, List.getElem_toArray, List.getElem_cons_zero, List.getElem_cons_succ, List.setIfInBounds_toArray, List.set_cons_zero, List.set_cons_succ]
                    refine wpAnyH_take (i := 6) (v := ?_) rfl (by kernel_rfl) (by kernel_rfl) (by kernel_rfl) (fun _ _ _ h => h) (Or.inl ⟨by kernel_rfl, ?_⟩) (by assumption) ?_
                    rotate_left 1
                    · (intro w hSw; obtain ⟨hk1, hk2, hk3, hk4, hk5, hk6, hk7, hk8, hk9⟩ := hSw; go_simp <;> with_reducible rfl)
                    simp only [Act.put, List.getElem_toArray, List.getElem_cons_zero, List.getElem_cons_succ, List.setIfInBounds_toArray, List.set_cons_zero, List.set_cons_succ]
                    refine wpAnyH_take (i := 7) (v := ?_) rfl (by kernel_rfl) (by kernel_rfl) (by kernel_rfl) (fun _ _ _ h => h) (Or.inl ⟨by kernel_rfl, ?_⟩) (by assumption) ?_
                    rotate_left 1
                    · (intro w hSw; obtain ⟨hk1, hk2, hk3, hk4, hk5, hk6, hk7, hk8, hk9⟩ := hSw; go_simp <;> with_reducible rfl)
                    simp only [Act.put, List.getElem_toArray, List.getElem_cons_zero, List.getElem_cons_succ, List.setIfInBounds_toArray, List.set_cons_zero, List.set_cons_succ]
                    refine wpAnyH_take (i := 8) (v := ?_) rfl (by kernel_rfl) (by kernel_rfl) (by kernel_rfl) (fun _ _ _ h => h) (Or.inl ⟨by kernel_rfl, ?_⟩) (by assumption) ?_
                    rotate_left 1
                    · (intro w hSw; obtain ⟨hk1, hk2, hk3, hk4, hk5, hk6, hk7, hk8, hk9⟩ := hSw; go_simp <;> with_reducible rfl)
                    simp only [Act.put, List.getElem_toArray, List.getElem_cons_zero, List.getElem_cons_succ, List.setIfInBounds_toArray, List.set_cons_zero, List.set_cons_succ]
                    refine wpAnyH_take (i := 9) (v := ?_) rfl (by kernel_rfl) (by kernel_rfl) (by kernel_rfl) (fun _ _ _ h => h) (Or.inl ⟨by kernel_rfl, ?_⟩) (by assumption) ?_
                    rotate_left 1
                    · (intro w hSw; obtain ⟨hk1, hk2, hk3, hk4, hk5, hk6, hk7, hk8, hk9⟩ := hSw; go_simp <;> with_reducible rfl)
                    simp only [Act.put, List.getElem_toArray, List.getElem_cons_zero, List.getElem_cons_succ, List.setIfInBounds_toArray, List.set_cons_zero, List.set_cons_succ]
                    refine wpAnyH_take (i := 10) (v := ?_) rfl (by kernel_rfl) (by kernel_rfl) (by kernel_rfl) (fun _ _ _ h => h) (Or.inl ⟨by kernel_rfl, ?_⟩) (by assumption) ?_
                    rotate_left 1
                    · (intro w hSw; obtain ⟨hk1, hk2, hk3, hk4, hk5, hk6, hk7, hk8, hk9⟩ := hSw; go_simp <;> with_reducible rfl)
                    simp only [Act.put, List.getElem_toArray, List.getElem_cons_zero, List.getElem_cons_succ, List.setIfInBounds_toArray, List.set_cons_zero, List.set_cons_succ]
                    refine wpAnyH_take (i := 11) (v := ?_) rfl (by kernel_rfl) (by kernel_rfl) (by kernel_rfl) (fun _ _ _ h => h) (Or.inl ⟨by kernel_rfl, ?_⟩) (by assumption) ?_
                    rotate_left 1
                    · (intro w hSw; obtain ⟨hk1, hk2, hk3, hk4, hk5, hk6, hk7, hk8, hk9⟩ := hSw; go_simp <;> with_reducible rfl)
                    simp only [Act.put, List.getElem_toArray, List.getElem_cons_zero, List.getElem_cons_succ, List.setIfInBounds_toArray, List.set_cons_zero, List.set_cons_succ]
                    refine wpAnyH_take (i := 12) (v := ?_) rfl (by kernel_rfl) (by kernel_rfl) (by kernel_rfl) (fun _ _ _ h => h) (Or.inl ⟨by kernel_rfl, ?_⟩) (by assumption) ?_
                    rotate_left 1
                    · (intro w hSw; obtain ⟨hk1, hk2, hk3, hk4, hk5, hk6, hk7, hk8, hk9⟩ := hSw; go_simp <;> with_reducible rfl)
                    simp only [Act.put, List.getElem_toArray, List.getElem_cons_zero, List.getElem_cons_succ, List.setIfInBounds_toArray, List.set_cons_zero, List.set_cons_succ]
                    refine wpAnyH_take (i := 13) (v := ?_) rfl (by kernel_rfl) (by kernel_rfl) (by kernel_rfl) (fun _ _ _ h => h) (Or.inl ⟨by kernel_rfl, ?_⟩) (by assumption) ?_
                    rotate_left 1
                    · (intro w hSw; obtain ⟨hk1, hk2, hk3, hk4, hk5, hk6, hk7, hk8, hk9⟩ := hSw; go_simp <;> with_reducible rfl)
                    simp only [Act.put, List.getElem_toArray, List.getElem_cons_zero, List.getElem_cons_succ, List.setIfInBounds_toArray, List.set_cons_zero, List.set_cons_succ]
                    refine wpAnyH_take (i := 14) (v := ?_) rfl (by kernel_rfl) (by kernel_rfl) (by kernel_rfl) (fun _ _ _ h => h) (Or.inl ⟨by kernel_rfl, ?_⟩) (by assumption) ?_
                    rotate_left 1
                    · (intro w hSw; obtain ⟨hk1, hk2, hk3, hk4, hk5, hk6, hk7, hk8, hk9⟩ := hSw; go_simp <;> with_reducible rfl)
                    simp only [Act.put, List.getElem_toArray, List.getElem_cons_zero, List.getElem_cons_succ, List.setIfInBounds_toArray, List.set_cons_zero, List.set_cons_succ]
                    refine wpAnyH_take (i := 15) (v := ?_) rfl (by kernel_rfl) (by kernel_rfl) (by kernel_rfl) (fun _ _ _ h => h) (Or.inl ⟨by kernel_rfl, ?_⟩) (by assumption) ?_
                    rotate_left 1
                    · (intro w hSw; obtain ⟨hk1, hk2, hk3, hk4, hk5, hk6, hk7, hk8, hk9⟩ := hSw; go_simp <;> with_reducible rfl)
                    simp only [Act.put, List.getElem_toArray, List.getElem_cons_zero, List.getElem_cons_succ, List.setIfInBounds_toArray, List.set_cons_zero, List.set_cons_succ]
                    refine wpAnyH_take (i := 16) (v := ?_) rfl (by kernel_rfl) (by kernel_rfl) (by kernel_rfl) (fun _ _ _ h => h) (Or.inl ⟨by kernel_rfl, ?_⟩) (by assumption) ?_
                    rotate_left 1
                    · (intro w hSw; obtain ⟨hk1, hk2, hk3, hk4, hk5, hk6, hk7, hk8, hk9⟩ := hSw; go_simp <;> with_reducible rfl)
                    simp only [Act.put, List.getElem_toArray, List.getElem_cons_zero, List.getElem_cons_succ, List.setIfInBounds_toArray, List.set_cons_zero, List.set_cons_succ]
                    refine wpAnyH_take (i := 17) (v := ?_) rfl (by kernel_rfl) (by kernel_rfl) (by kernel_rfl) (fun _ _ _ h => h) (Or.inl ⟨by kernel_rfl, ?_⟩) (by assumption) ?_
                    rotate_left 1
                    · (intro w hSw; obtain ⟨hk1, hk2, hk3, hk4, hk5, hk6, hk7, hk8, hk9⟩ := hSw; go_simp <;> with_reducible rfl)
                    simp only [Act.put, List.getElem_toArray, List.getElem_cons_zero, List.getElem_cons_succ, List.setIfInBounds_toArray, List.set_cons_zero, List.set_cons_succ]
                    refine nextH (i := 18) (by kernel_rfl) rfl (fun K hK => ?_)
                    go_simp
                    refine (HWQ.out _).mono ?_
                    rintro e_ w_ ⟨rfl, rfl⟩
                    try dsimp only
                    refine hK _ _ hSd ?_
                    clear hK K
                    refine nextH (i := 19) (by kernel_rfl) rfl (fun K hK => ?_)
                    go_simp
                    obtain ⟨W5, hW5⟩ : ∃ W5, ((wr.setCell ⟨p + 1, 0, none⟩ (.int .i64 B)).setCell ⟨p + 1, 1, none⟩ (.slice A1 fs.length c1')).drew = W5 := ⟨_, rfl⟩
                    have hR5 : Blk W5 (p + 1) 24 [.int .i64 B, .slice A1 fs.length c1'] := by rw [← hW5]; exact (hRr.set_ 0 _).set_ 1 _
                    have hT5 : Blk W5 (p + 2) 30 [.slice none 0 0, .int .i64 0, .int .i64 0] := by rw [← hW5]; exact (hT0r.far (by show p + 2 ≠ p + 1; omega) _).far (by show p + 2 ≠ p + 1; omega) _
                    have hB5 : Below p w W5 := by rw [← hW5]; exact ((hBr.setCell (by show p ≤ p + 1; omega) _).setCell (by show p ≤ p + 1; omega) _).drew
                    have hA5 : RdT W5 47 A1 (gs (slabK fs ts fs.length)) := by rw [← hW5]; exact ((RdT.of_own ho1).keep (KeepT.setCell hRr (by decide) 0 _)).keep (KeepT.setCell (hRr.set_ 0 _) (by decide) 1 _)
                    have ho5 : W5.ownsRow q 55 3 (.slice A2 fs.length c2') fs.length (ps (bareL fs fs.length)) := by rw [← hW5]; exact (own_set (own_set ho2 (B := p + 1) (by omega) 0 _) (B := p + 1) (by omega) 1 _).drew
                    have hSe : W5.cell? ⟨g1, 0, none⟩ = some (.int .i64 B) ∧ W5.cell? ⟨g1, 1, none⟩ = some (.slice A1 fs.length c1') ∧ W5.cell? ⟨g2, 0, none⟩ = some (.slice A2 fs.length c2') ∧ W5.cell? ⟨g2, 1, none⟩ = some (.int .i64 (a : Int)) ∧ W5.cell? ⟨g2, 2, none⟩ = some (.int .i64 wd) ∧ W5.cell? ⟨p, 0, none⟩ = some (.slice (some ⟨fb, fo, none⟩) fs.length fc) ∧ W5.cell? ⟨p, 4, none⟩ = some (.int .i64 (a : Int)) ∧ W5.cell? ⟨p, 6, none⟩ = some (.int .i64 sq) ∧ W5.cell? ⟨fb, fo + a, none⟩ = some (.int .i64 f) := by rw [← hW5]; exact ⟨cell_set2 s0 (by omega), cell_set2 s1 (by omega), cell_set2 t0 (by omega), cell_set2 t1 (by omega), cell_set2 t2 (by omega), cell_set2 c0 (by omega), cell_set2 c4 (by omega), cell_set2 c6 (by omega), cell_set2 x0 (by omega)⟩
                    rw [hW5]
                    clear hW5
                    refine hK _ _ hSe ?_
                    clear hK K
                    have k2 := hT5.cell 0
                    have k3 := hT5.cell 1
                    have k4 := hT5.cell 2
                    simp only [List.getElem?_cons_zero, List.getElem?_cons_succ] at k2 k3 k4
                    have fz2 := hT5.frozen 0
                    have fz3 := hT5.frozen 1
                    have fz4 := hT5.frozen 2
                    have zt0 := hT5.lt
                    refine nextH (i := 20) (by kernel_rfl) rfl (fun K hK => ?_)
                    go_simp
                    obtain ⟨W6, hW6⟩ : ∃ W6, ((W5.setCell ⟨p + 2, 0, none⟩ (.slice A2 fs.length c2')).setCell ⟨p + 2, 1, none⟩ (.int .i64 (a : Int))).setCell ⟨p + 2, 2, none⟩ (.int .i64 wd) = W6 := ⟨_, rfl⟩
                    have hR6 : Blk W6 (p + 1) 24 [.int .i64 B, .slice A1 fs.length c1'] := by rw [← hW6]; exact ((hR5.far (by show p + 1 ≠ p + 2; omega) _).far (by show p + 1 ≠ p + 2; omega) _).far (by show p + 1 ≠ p + 2; omega) _
                    have hT6 : Blk W6 (p + 2) 30 [.slice A2 fs.length c2', .int .i64 (a : Int), .int .i64 wd] := by rw [← hW6]; exact ((hT5.set_ 0 _).set_ 1 _).set_ 2 _
                    have hB6 : Below p w W6 := by rw [← hW6]; exact ((hB5.setCell (by show p ≤ p + 2; omega) _).setCell (by show p ≤ p + 2; omega) _).setCell (by show p ≤ p + 2; omega) _
                    have hA6 : RdT W6 47 A1 (gs (slabK fs ts fs.length)) := by rw [← hW6]; exact ((hA5.keep (KeepT.setCell hT5 (by decide) 0 _)).keep (KeepT.setCell (hT5.set_ 0 _) (by decide) 1 _)).keep (KeepT.setCell ((hT5.set_ 0 _).set_ 1 _) (by decide) 2 _)
                    have ho6 : W6.ownsRow q 55 3 (.slice A2 fs.length c2') fs.length (ps (bareL fs fs.length)) := by rw [← hW6]; exact own_set (own_set (own_set ho5 (B := p + 2) (by omega) 0 _) (B := p + 2) (by omega) 1 _) (B := p + 2) (by omega) 2 _
                    have hSf : W6.cell? ⟨g1, 0, none⟩ = some (.int .i64 B) ∧ W6.cell? ⟨g1, 1, none⟩ = some (.slice A1 fs.length c1') ∧ W6.cell? ⟨g2, 0, none⟩ = some (.slice A2 fs.length c2') ∧ W6.cell? ⟨g2, 1, none⟩ = some (.int .i64 (a : Int)) ∧ W6.cell? ⟨g2, 2, none⟩ = some (.int .i64 wd) ∧ W6.cell? ⟨p, 0, none⟩ = some (.slice (some ⟨fb, fo, none⟩) fs.length fc) ∧ W6.cell? ⟨p, 4, none⟩ = some (.int .i64 (a : Int)) ∧ W6.cell? ⟨p, 6, none⟩ = some (.int .i64 sq) ∧ W6.cell? ⟨fb, fo + a, none⟩ = some (.int .i64 f) := by
                      obtain ⟨a1, a2, a3, a4, a5, a6, a7, a8, a9⟩ := hSe
                      rw [← hW6]
                      exact ⟨cell_set1 (cell_set2 a1 (by omega)) (by omega), cell_set1 (cell_set2 a2 (by omega)) (by omega), cell_set1 (cell_set2 a3 (by omega)) (by omega), cell_set1 (cell_set2 a4 (by omega)) (by omega), cell_set1 (cell_set2 a5 (by omega)) (by omega), cell_set1 (cell_set2 a6 (by omega)) (by omega), cell_set1 (cell_set2 a7 (by omega)) (by omega), cell_set1 (cell_set2 a8 (by omega)) (by omega), cell_set1 (cell_set2 a9 (by omega)) (by omega)⟩
                    rw [hW6]
                    clear hW6
                    refine hK _ _ hSf ?_
                    clear hK K
                    refine nextH (i := 21) (by kernel_rfl) rfl (fun K hK => ?_)
                    go_simp
                    refine hK _ _ hSf ?_
                    clear hK K
                    refine wpAnyH_done (by kernel_rfl) ?_ _
                    clear s0 s1 t0 t1 t2 k0 k1 k2 k3 k4 fz0 fz1 fz2 fz3 fz4
                    have s0 := hR6.cell 0; have s1 := hR6.cell 1; simp only [List.getElem?_cons_zero, List.getElem?_cons_succ] at s0 s1
                    have t0 := hT6.cell 0; have t1 := hT6.cell 1; have t2 := hT6.cell 2; simp only [List.getElem?_cons_zero, List.getElem?_cons_succ] at t0 t1 t2
                    have hA7 := hA6
                    rw [slabK_all] at hA7
                    go_wp2
                    exact bodyPost_ret (v := .tuple #[.agg #[.int .i64 B, .slice A1 fs.length c1'], .agg #[.slice A2 fs.length c2', .int .i64 (a : Int), .int .i64 wd], .bool ans]) (by simp [results, Try.results14, go_sem, s0, s1, t0, t1, t2]; try rfl) rfl ⟨.inr ⟨HPRE.out, A1, c1', A2, c2', by rw [HSQ.out, HANS.out], own_cap ho1, hA7, by rw [hp]; exact World.ownsRow.mono ho6 (by omega)⟩, by rw [hp]; exact hB6⟩
        · have e4 : ((vs.length : Int) != (fs.length : Int)) = true := by simp; omega
          clear n0 n1 nt nv
          have k0 := hR0.cell 0
          have k1 := hR0.cell 1
          have k2 := hT0.cell 0
          have k3 := hT0.cell 1
          have k4 := hT0.cell 2
          simp only [List.getElem?_cons_zero, List.getElem?_cons_succ] at k0 k1 k2 k3 k4
          have fz0 := hR0.frozen 0
          have fz1 := hR0.frozen 1
          have fz2 := hT0.frozen 0
          have fz3 := hT0.frozen 1
          have fz4 := hT0.frozen 2
          have zt := hR0.lt
          have zr := hT0.lt
          go_wp2_with (first | (go_at_call 15; with_reducible refine (HWB.out _).mono ?_; rintro e_ w_ ⟨rfl, rfl⟩) | (go_at_call 15; with_reducible refine (HWA.out _).mono ?_; rintro e_ w_ ⟨rfl, rfl⟩) | (go_at_call 15; with_reducible refine (HWW.out _).mono ?_; rintro e_ w_ ⟨rfl, rfl⟩) | (go_at_call 40; refine (frequencyErr_c _ _).mono ?_; rintro e_ w_ ⟨rfl, rfl⟩) | (go_at_call 15; with_reducible refine (HWT.out _).mono ?_; rintro e_ w_ ⟨rfl, rfl⟩) | (go_at_call 15; with_reducible refine (HWV.out _).mono ?_; rintro e_ w_ ⟨rfl, rfl⟩))
          obtain ⟨WE, hWE⟩ : ∃ WE, ((((W0.setCell ⟨p + 1, 0, none⟩ (.int .i64 0)).setCell ⟨p + 1, 1, none⟩ (.slice none 0 0)).setCell ⟨p + 2, 0, none⟩ (.slice none 0 0)).setCell ⟨p + 2, 1, none⟩ (.int .i64 0)).setCell ⟨p + 2, 2, none⟩ (.int .i64 0) = WE := ⟨_, rfl⟩
          rw [hWE]
          have hE : Blk WE (p + 1) 24 [.int .i64 0, .slice none 0 0] := by rw [← hWE]; exact ((((hR0.set_ 0 _).set_ 1 _).far (by show p + 1 ≠ p + 2; omega) _).far (by show p + 1 ≠ p + 2; omega) _).far (by show p + 1 ≠ p + 2; omega) _
          have hE2 : Blk WE (p + 2) 30 [.slice none 0 0, .int .i64 0, .int .i64 0] := by rw [← hWE]; exact (((((hT0.far (by show p + 2 ≠ p + 1; omega) _).far (by show p + 2 ≠ p + 1; omega) _).set_ 0 _).set_ 1 _).set_ 2 _)
          have hBE : Below p w WE := by rw [← hWE]; exact ((((hB0.setCell (by show p ≤ p + 1; omega) _).setCell (by show p ≤ p + 1; omega) _).setCell (by show p ≤ p + 2; omega) _).setCell (by show p ≤ p + 2; omega) _).setCell (by show p ≤ p + 2; omega) _
          clear hWE
          have g0 := hE.cell 0; have g1 := hE.cell 1; simp only [List.getElem?_cons_zero, List.getElem?_cons_succ] at g0 g1
          have e0 := hE2.cell 0; have e1 := hE2.cell 1; have e2 := hE2.cell 2; simp only [List.getElem?_cons_zero, List.getElem?_cons_succ] at e0 e1 e2
          exact bodyPost_ret (v := .tuple #[.agg #[.int .i64 0, .slice none 0 0], .agg #[.slice none 0 0, .int .i64 0, .int .i64 0], .bool false]) (by simp [results, Try.results14, go_sem, g0, g1, e0, e1, e2]; try rfl) rfl ⟨.inl rfl, by rw [hp]; exact hBE⟩
      · have e3 : ((ts.length : Int) != (fs.length : Int)) = true := by simp; omega
        clear n0 n1 nt
        have k0 := hR0.cell 0
        have k1 := hR0.cell 1
        have k2 := hT0.cell 0
        have k3 := hT0.cell 1
        have k4 := hT0.cell 2
        simp only [List.getElem?_cons_zero, List.getElem?_cons_succ] at k0 k1 k2 k3 k4
        have fz0 := hR0.frozen 0
        have fz1 := hR0.frozen 1
        have fz2 := hT0.frozen 0
        have fz3 := hT0.frozen 1
        have fz4 := hT0.frozen 2
        have zt := hR0.lt
        have zr := hT0.lt
        go_wp2_with (first | (go_at_call 15; with_reducible refine (HWB.out _).mono ?_; rintro e_ w_ ⟨rfl, rfl⟩) | (go_at_call 15; with_reducible refine (HWA.out _).mono ?_; rintro e_ w_ ⟨rfl, rfl⟩) | (go_at_call 15; with_reducible refine (HWW.out _).mono ?_; rintro e_ w_ ⟨rfl, rfl⟩) | (go_at_call 40; refine (frequencyErr_c _ _).mono ?_; rintro e_ w_ ⟨rfl, rfl⟩) | (go_at_call 15; with_reducible refine (HWT.out _).mono ?_; rintro e_ w_ ⟨rfl, rfl⟩) | (go_at_call 15; with_reducible refine (HWV.out _).mono ?_; rintro e_ w_ ⟨rfl, rfl⟩))
        obtain ⟨WE, hWE⟩ : ∃ WE, ((((W0.setCell ⟨p + 1, 0, none⟩ (.int .i64 0)).setCell ⟨p + 1, 1, none⟩ (.slice none 0 0)).setCell ⟨p + 2, 0, none⟩ (.slice none 0 0)).setCell ⟨p + 2, 1, none⟩ (.int .i64 0)).setCell ⟨p + 2, 2, none⟩ (.int .i64 0) = WE := ⟨_, rfl⟩
        rw [hWE]
        have hE : Blk WE (p + 1) 24 [.int .i64 0, .slice none 0 0] := by rw [← hWE]; exact ((((hR0.set_ 0 _).set_ 1 _).far (by show p + 1 ≠ p + 2; omega) _).far (by show p + 1 ≠ p + 2; omega) _).far (by show p + 1 ≠ p + 2; omega) _
        have hE2 : Blk WE (p + 2) 30 [.slice none 0 0, .int .i64 0, .int .i64 0] := by rw [← hWE]; exact (((((hT0.far (by show p + 2 ≠ p + 1; omega) _).far (by show p + 2 ≠ p + 1; omega) _).set_ 0 _).set_ 1 _).set_ 2 _)
        have hBE : Below p w WE := by rw [← hWE]; exact ((((hB0.setCell (by show p ≤ p + 1; omega) _).setCell (by show p ≤ p + 1; omega) _).setCell (by show p ≤ p + 2; omega) _).setCell (by show p ≤ p + 2; omega) _).setCell (by show p ≤ p + 2; omega) _
        clear hWE
        have g0 := hE.cell 0; have g1 := hE.cell 1; simp only [List.getElem?_cons_zero, List.getElem?_cons_succ] at g0 g1
        have e0 := hE2.cell 0; have e1 := hE2.cell 1; have e2 := hE2.cell 2; simp only [List.getElem?_cons_zero, List.getElem?_cons_succ] at e0 e1 e2
        exact bodyPost_ret (v := .tuple #[.agg #[.int .i64 0, .slice none 0 0], .agg #[.slice none 0 0, .int .i64 0, .int .i64 0], .bool false]) (by simp [results, Try.results14, go_sem, g0, g1, e0, e1, e2]; try rfl) rfl ⟨.inl rfl, by rw [hp]; exact hBE⟩
end Go.Proofs.Ytdeehodekilaiaa
