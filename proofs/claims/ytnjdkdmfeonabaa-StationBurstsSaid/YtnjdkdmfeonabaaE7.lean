/- Contracts: packed series. -/
import Derived.Test.YtnjdkdmfeonabaaE6
set_option linter.unusedSimpArgs false
set_option linter.unusedVariables false
set_option linter.unusedSimpArgs false
set_option linter.unusedVariables false
namespace Go.Proofs.Ytnjdkdmfeonabaa
open Go.RowKit
set_option maxRecDepth 100000

/-- A series packed: the way and the numbers that are written. -/
def packR (l : List Int) : Int × List Int :=
  let x : Int × List Int := if (flat (runsL (diffs 0 l))).length < l.length then (1, flat (runsL (diffs 0 l))) else (0, l)
  if (flat (runsL l)).length < x.2.length then (2, flat (runsL l)) else x
theorem packed_bad (l : List Int) (A : Option Addr) (c : Nat) (w : World) (hr : Rd w A (ints l)) (hl : l.length ≤ 1000) (he : serE l ≠ 0) :
    Calls Try.prog 10 #[.slice A l.length c] w fun r w' => r = .returned (.tuple #[.agg #[.int .i64 0, .slice none 0 0], .int .i64 (serE l)]) ∧ Below w.heap.size w w' := by
  have HS := hide (fun W h => seriesError_c A c l W h hl)
  have e1 : (serE l != 0) = true := by simpa using he
  clear he
  generalize serE l = E at HS e1 ⊢
  have hY0 := Blk.new w 38 [.int .i64 0, .slice none 0 0]
  have hB0 := alloc_bel w (.cells #[.int .i64 0, .slice none 0 0] 38)
  have hr0 := hr.alloc (.cells #[.int .i64 0, .slice none 0 0] 38)
  have hz := hY0.lt
  go_enter Try.func10, Try.ntmps10
  go_wp2_with (first | (go_at_call 20; refine (HS.out _ hr0).mono ?_; rintro e_ w1 ⟨rfl, hb1⟩; have hY1 := hY0.bel hb1; have f0 := hY1.frozen 0; have f1 := hY1.frozen 1; have k0 := hY1.cell 0; have k1 := hY1.cell 1; simp only [List.getElem?_cons_zero, List.getElem?_cons_succ] at k0 k1))
  have hB1 := bel_tr hB0 (by simp) hb1
  obtain ⟨WE, hWE⟩ : ∃ WE, (w1.setCell ⟨w.heap.size, 0, none⟩ (.int .i64 0)).setCell ⟨w.heap.size, 1, none⟩ (.slice none 0 0) = WE := ⟨_, rfl⟩
  rw [hWE]
  have hE : Blk WE w.heap.size 38 [.int .i64 0, .slice none 0 0] := by rw [← hWE]; exact (hY1.set_ 0 _).set_ 1 _
  have hBE : Below w.heap.size w WE := by rw [← hWE]; exact (hB1.setCell (Nat.le_refl _) _).setCell (Nat.le_refl _) _
  clear hWE
  have y0 := hE.cell 0; have y1 := hE.cell 1; simp only [List.getElem?_cons_zero, List.getElem?_cons_succ] at y0 y1
  exact bodyPost_ret (v := .tuple #[.agg #[.int .i64 0, .slice none 0 0], .int .i64 E]) (by simp [results, Try.results10, go_sem, y0, y1]; try rfl) rfl ⟨rfl, hBE⟩

/-- Which of three ways is the best of the first k, by their lengths. -/
def bst (a b c : Nat) : Nat → Nat
  | 0 => 0
  | 1 => 0
  | 2 => if b < a then 1 else 0
  | _ => if c < (if b < a then b else a) then 2 else if b < a then 1 else 0
set_option maxHeartbeats 2000000 in
theorem packed_cap (l : List Int) (A : Option Addr) (c : Nat) (w : World) (hr : Rd w A (ints l)) (hl : l.length ≤ 1000) (he : serE l = 0) :
    Calls Try.prog 10 #[.slice A l.length c] w fun r w' => (∃ A' c', r = .returned (.tuple #[.agg #[.int .i64 (packR l).1, .slice A' (packR l).2.length c'], .int .i64 0]) ∧ RdT w' 3 A' (ints (packR l).2) ∧ (packR l).2.length ≤ c') ∧ Below w.heap.size w w' := by
  have HS := hide (fun W h => seriesError_c A c l W h hl)
  obtain ⟨hl2, hwi⟩ := serE_zero he
  rw [he] at HS
  have HC := hide (fun W h => clone_c l A c W h hl)
  have HD := hide (fun W h => differencesOf_c l A c W h hl hwi)
  have HW1 := hide (fun A c W h => writtenRuns_c (diffs 0 l) A c W h (by simpa using hl))
  have HW2 := hide (fun W h => writtenRuns_c l A c W h hl)
  rw [diffs_length] at HW1
  have h1 := runsL_length l
  have h2 := runsL_length (diffs 0 l)
  rw [diffs_length] at h2
  have hd1 : (flat (runsL l)).length ≤ 400 := by rw [flat_length]; omega
  have hd2 : (flat (runsL (diffs 0 l))).length ≤ 400 := by rw [flat_length]; omega
  have HR : Hid (packR l = (let x : Int × List Int := if (flat (runsL (diffs 0 l))).length < l.length then (1, flat (runsL (diffs 0 l))) else (0, l); if (flat (runsL l)).length < x.2.length then (2, flat (runsL l)) else x)) := rfl
  generalize packR l = R at HR ⊢
  generalize flat (runsL l) = x2 at HW2 HR hd1
  generalize flat (runsL (diffs 0 l)) = x1 at HW1 HR hd2
  generalize diffs 0 l = dl at HD HW1
  clear h1 h2 he hwi
  have hY0 := Blk.new w 38 [.int .i64 0, .slice none 0 0]
  have hB0 := alloc_bel w (.cells #[.int .i64 0, .slice none 0 0] 38)
  have hr0 := hr.alloc (.cells #[.int .i64 0, .slice none 0 0] 38)
  have hz := hY0.lt
  go_enter Try.func10, Try.ntmps10
  go_upto_region 5 with (first
    | (go_at_call 20; refine (HS.out _ hr0).mono ?_; rintro e_ w1 ⟨rfl, hb1⟩; have hr1 := hr0.bel hb1)
    | (go_at_call 21; refine (HC.out _ hr1).mono ?_; rintro e_ w2 ⟨⟨A0, q0, rfl, hx0, kx0⟩, hb2⟩; have hr2 := hr1.bel hb2)
    | (go_at_call 23; refine (HD.out _ hr2).mono ?_; rintro e_ w3 ⟨⟨Ad, qd, rfl, hxd⟩, hb3⟩; have hr3 := hr2.bel hb3)
    | (have _g := hr4; go_at_call 22; refine (HW2.out _ hr4).mono ?_; rintro e_ w5 ⟨⟨A2, q2, rfl, hx2, kx2⟩, hb5⟩)
    | (go_at_call 22; refine (HW1.out _ _ _ hxd).mono ?_; rintro e_ w4 ⟨⟨A1, q1, rfl, hx1, kx1⟩, hb4⟩; have hr4 := hr3.bel hb4))
  have kc0 := hide kx0
  have kc1 := hide kx1
  have kc2 := hide kx2
  clear kx0 kx1 kx2
  have hB5 : Below w.heap.size w w5 := ((((bel_tr hB0 (by simp) hb1).trans (hb2.mono (by have := hb1.size; simp at this; omega))).trans (hb3.mono (by have := hb1.size; have := hb2.size; simp at *; omega))).trans (hb4.mono (by have := hb1.size; have := hb2.size; have := hb3.size; simp at *; omega))).trans (hb5.mono (by have := hb1.size; have := hb2.size; have := hb3.size; have := hb4.size; simp at *; omega))
  have hY5 := (((hY0.bel hb1).bel hb2).bel hb3).bel (hb4.trans (hb5.mono hb4.size))
  have hx05 := ((hx0.bel hb3).bel hb4).bel hb5
  have hx15 := hx1.bel hb5
  obtain ⟨W, hW⟩ : ∃ W, w5.alloc (.cells #[.slice A0 l.length q0, .slice A1 x1.length q1, .slice A2 x2.length q2] 60) = W := ⟨_, rfl⟩
  have hb6 : Below w5.heap.size w5 W := by rw [← hW]; exact alloc_bel _ _
  have hM : Blk W w5.heap.size 60 [.slice A0 l.length q0, .slice A1 x1.length q1, .slice A2 x2.length q2] := by rw [← hW]; exact Blk.new w5 _ [_, _, _]
  have hYW := hY5.bel hb6
  have hBW := bel_tr hB5 (by have := hB5.size; omega) hb6
  have hx0W := hx05.bel hb6
  have hx1W := hx15.bel hb6
  have hx2W := hx2.bel hb6
  rw [hW]
  generalize w5.heap.size = m at hM ⊢
  clear hW hb6 hx05 hx15 hx2 hY5 hB5 hb1 hb2 hb3 hb4 hb5 hx0 hx1 hxd hr1 hr2 hr3 hr4 hr0 hY0 hB0 HS HC HD HW1 HW2
  have hzW := hYW.lt
  have hzM := hM.lt
  have f0 := hYW.frozen 0
  have f1 := hYW.frozen 1
  have y0 := hYW.cell 0; have y1 := hYW.cell 1; simp only [List.getElem?_cons_zero, List.getElem?_cons_succ] at y0 y1
  have m0 := hM.cell 0; have m1 := hM.cell 1; have m2 := hM.cell 2; simp only [List.getElem?_cons_zero, List.getElem?_cons_succ] at m0 m1 m2
  go_wp2
  obtain ⟨n0, HN0⟩ : ∃ n, Hid (l.length = n) := ⟨_, rfl⟩
  obtain ⟨n1, HN1⟩ : ∃ n, Hid (x1.length = n) := ⟨_, rfl⟩
  obtain ⟨n2, HN2⟩ : ∃ n, Hid (x2.length = n) := ⟨_, rfl⟩
  have hb0 : n0 ≤ 200 := by have := HN0.out; omega
  have hb1 : n1 ≤ 400 := by have := HN1.out; omega
  have hb2 : n2 ≤ 400 := by have := HN2.out; omega
  rw [HN0.out, HN1.out] at HR
  rw [HN0.out] at m0
  rw [HN1.out] at m1
  rw [HN2.out] at m2 HR
  rw [HN0.out, HN1.out, HN2.out]
  clear hd1 hd2 hl hl2 hM hr _g
  have i0 : ∀ w, (Instr.index 60 (.agg #[.slice A0 n0 q0, .slice A1 n1 q1, .slice A2 n2 q2]) (.int .i64 0)).run Try.prog w = .ok (.slice A0 n0 q0) w := fun _ => by kernel_rfl
  have i1 : ∀ w, (Instr.index 60 (.agg #[.slice A0 n0 q0, .slice A1 n1 q1, .slice A2 n2 q2]) (.int .i64 1)).run Try.prog w = .ok (.slice A1 n1 q1) w := fun _ => by kernel_rfl
  have i2 : ∀ w, (Instr.index 60 (.agg #[.slice A0 n0 q0, .slice A1 n1 q1, .slice A2 n2 q2]) (.int .i64 2)).run Try.prog w = .ok (.slice A2 n2 q2) w := fun _ => by kernel_rfl
  go_loop [6, 24] (fun b i => ∃ k : Nat, k ≤ 3 ∧ i = .int .i64 k ∧ b = .int .i64 (bst n0 n1 n2 k)) (fun _ i => 3 - (intOf i).toNat)
  case atStart => exact ⟨0, by omega, rfl, rfl⟩
  case round =>
    obtain ⟨k, hk, rfl, rfl⟩ := hrel
    rcases (by omega : k = 0 ∨ k = 1 ∨ k = 2 ∨ k = 3) with rfl | rfl | rfl | rfl
    · have e0 : ((bst n0 n1 n2 0 : Nat) : Int) = 0 := rfl
      rw [e0]
      have t0 : decide ((n0 : Int) < (n0 : Int)) = false := decide_eq_false (by omega); have t1 : decide (n0 < n0) = false := decide_eq_false (by omega); have t2 : ¬ (n0 : Int) < (n0 : Int) := by omega
      go_wp2
      go_round
      case rel => exact ⟨1, by omega, by go_num, rfl⟩
      case measure => simp [intOf]
    · have e0 : ((bst n0 n1 n2 1 : Nat) : Int) = 0 := rfl
      rw [e0]
      by_cases h : n1 < n0
      · have t0 : decide ((n1 : Int) < (n0 : Int)) = true := decide_eq_true (by omega); have t1 : decide (n1 < n0) = true := decide_eq_true (by omega); have t2 : (n1 : Int) < (n0 : Int) := by omega
        have e2 : Hid (bst n0 n1 n2 2 = 1) := by show (if n1 < n0 then 1 else 0) = 1; rw [if_pos h]
        clear h
        go_wp2
        go_round
        case rel => exact ⟨2, by omega, by go_num, by exact (congrArg (fun n : Nat => Value.int .i64 (n : Int)) e2.out).symm⟩
        case measure => simp [intOf]
      · have t0 : decide ((n1 : Int) < (n0 : Int)) = false := decide_eq_false (by omega); have t1 : decide (n1 < n0) = false := decide_eq_false (by omega); have t2 : ¬ (n1 : Int) < (n0 : Int) := by omega
        have e2 : Hid (bst n0 n1 n2 2 = 0) := by show (if n1 < n0 then 1 else 0) = 0; rw [if_neg h]
        clear h
        go_wp2
        go_round
        case rel => exact ⟨2, by omega, by go_num, by exact (congrArg (fun n : Nat => Value.int .i64 (n : Int)) e2.out).symm⟩
        case measure => simp [intOf]
    · by_cases h : n1 < n0
      · have e0 : ((bst n0 n1 n2 2 : Nat) : Int) = 1 := by show (((if n1 < n0 then 1 else 0) : Nat) : Int) = 1; rw [if_pos h]; rfl
        rw [e0]
        by_cases h2 : n2 < n1
        · have t0 : decide ((n2 : Int) < (n1 : Int)) = true := decide_eq_true (by omega); have t1 : decide (n2 < n1) = true := decide_eq_true (by omega); have t2 : (n2 : Int) < (n1 : Int) := by omega
          have e2 : Hid (bst n0 n1 n2 3 = 2) := by show (if n2 < (if n1 < n0 then n1 else n0) then 2 else if n1 < n0 then 1 else 0) = 2; rw [if_pos (by rw [if_pos h]; exact h2)]
          clear h h2 e0
          go_wp2
          go_round
          case rel => exact ⟨3, by omega, by go_num, by exact (congrArg (fun n : Nat => Value.int .i64 (n : Int)) e2.out).symm⟩
          case measure => simp [intOf]
        · have t0 : decide ((n2 : Int) < (n1 : Int)) = false := decide_eq_false (by omega); have t1 : decide (n2 < n1) = false := decide_eq_false (by omega); have t2 : ¬ (n2 : Int) < (n1 : Int) := by omega
          have e2 : Hid (bst n0 n1 n2 3 = 1) := by show (if n2 < (if n1 < n0 then n1 else n0) then 2 else if n1 < n0 then 1 else 0) = 1; rw [if_neg (by rw [if_pos h]; exact h2), if_pos h]
          clear h h2 e0
          go_wp2
          go_round
          case rel => exact ⟨3, by omega, by go_num, by exact (congrArg (fun n : Nat => Value.int .i64 (n : Int)) e2.out).symm⟩
          case measure => simp [intOf]
      · have e0 : ((bst n0 n1 n2 2 : Nat) : Int) = 0 := by show (((if n1 < n0 then 1 else 0) : Nat) : Int) = 0; rw [if_neg h]; rfl
        rw [e0]
        by_cases h2 : n2 < n0
        · have t0 : decide ((n2 : Int) < (n0 : Int)) = true := decide_eq_true (by omega); have t1 : decide (n2 < n0) = true := decide_eq_true (by omega); have t2 : (n2 : Int) < (n0 : Int) := by omega
          have e2 : Hid (bst n0 n1 n2 3 = 2) := by show (if n2 < (if n1 < n0 then n1 else n0) then 2 else if n1 < n0 then 1 else 0) = 2; rw [if_pos (by rw [if_neg h]; exact h2)]
          clear h h2 e0
          go_wp2
          go_round
          case rel => exact ⟨3, by omega, by go_num, by exact (congrArg (fun n : Nat => Value.int .i64 (n : Int)) e2.out).symm⟩
          case measure => simp [intOf]
        · have t0 : decide ((n2 : Int) < (n0 : Int)) = false := decide_eq_false (by omega); have t1 : decide (n2 < n0) = false := decide_eq_false (by omega); have t2 : ¬ (n2 : Int) < (n0 : Int) := by omega
          have e2 : Hid (bst n0 n1 n2 3 = 0) := by show (if n2 < (if n1 < n0 then n1 else n0) then 2 else if n1 < n0 then 1 else 0) = 0; rw [if_neg (by rw [if_neg h]; exact h2), if_neg h]
          clear h h2 e0
          go_wp2
          go_round
          case rel => exact ⟨3, by omega, by go_num, by exact (congrArg (fun n : Nat => Value.int .i64 (n : Int)) e2.out).symm⟩
          case measure => simp [intOf]
    · have HE : Hid (bst n0 n1 n2 3 = if n2 < (if n1 < n0 then n1 else n0) then 2 else if n1 < n0 then 1 else 0) := rfl
      by_cases h : n1 < n0
      · by_cases h2 : n2 < n1
        · have e0 : ((bst n0 n1 n2 3 : Nat) : Int) = 2 := by rw [HE.out, if_pos (by rw [if_pos h]; exact h2)]; rfl
          have hR : Hid (R = (2, x2)) := by have := HR.out; simp only [if_pos h, HN1.out, if_pos h2] at this; exact this
          rw [e0]
          clear h h2 e0 HE HR
          go_wp2
          obtain ⟨WE, hWE⟩ : ∃ WE, (W.setCell ⟨w.heap.size, 0, none⟩ (.int .i64 2)).setCell ⟨w.heap.size, 1, none⟩ (.slice A2 n2 q2) = WE := ⟨_, rfl⟩
          rw [hWE]
          have hE : Blk WE w.heap.size 38 [.int .i64 2, .slice A2 n2 q2] := by rw [← hWE]; exact (hYW.set_ 0 _).set_ 1 _
          have hBE : Below w.heap.size w WE := by rw [← hWE]; exact (hBW.setCell (Nat.le_refl _) _).setCell (Nat.le_refl _) _
          have hRd : RdT WE 3 A2 (ints R.2) := by rw [hR.out, ← hWE]; exact (hx2W.set hYW (by decide) 0 _).set (hYW.set_ 0 _) (by decide) 1 _
          clear hWE
          have z0 := hE.cell 0; have z1 := hE.cell 1; simp only [List.getElem?_cons_zero, List.getElem?_cons_succ] at z0 z1
          refine bodyPost_ret (v := .tuple #[.agg #[.int .i64 2, .slice A2 n2 q2], .int .i64 0]) (by simp [results, Try.results10, go_sem, z0, z1]; try rfl) rfl ⟨⟨A2, q2, ?_, hRd, ?_⟩, hBE⟩
          · rw [hR.out, HN2.out]
          · rw [hR.out]; exact kc2.out
        · have e0 : ((bst n0 n1 n2 3 : Nat) : Int) = 1 := by rw [HE.out, if_neg (by rw [if_pos h]; exact h2), if_pos h]; rfl
          have hR : Hid (R = (1, x1)) := by have := HR.out; simp only [if_pos h, HN1.out, if_neg h2] at this; exact this
          rw [e0]
          clear h h2 e0 HE HR
          go_wp2
          obtain ⟨WE, hWE⟩ : ∃ WE, (W.setCell ⟨w.heap.size, 0, none⟩ (.int .i64 1)).setCell ⟨w.heap.size, 1, none⟩ (.slice A1 n1 q1) = WE := ⟨_, rfl⟩
          rw [hWE]
          have hE : Blk WE w.heap.size 38 [.int .i64 1, .slice A1 n1 q1] := by rw [← hWE]; exact (hYW.set_ 0 _).set_ 1 _
          have hBE : Below w.heap.size w WE := by rw [← hWE]; exact (hBW.setCell (Nat.le_refl _) _).setCell (Nat.le_refl _) _
          have hRd : RdT WE 3 A1 (ints R.2) := by rw [hR.out, ← hWE]; exact (hx1W.set hYW (by decide) 0 _).set (hYW.set_ 0 _) (by decide) 1 _
          clear hWE
          have z0 := hE.cell 0; have z1 := hE.cell 1; simp only [List.getElem?_cons_zero, List.getElem?_cons_succ] at z0 z1
          refine bodyPost_ret (v := .tuple #[.agg #[.int .i64 1, .slice A1 n1 q1], .int .i64 0]) (by simp [results, Try.results10, go_sem, z0, z1]; try rfl) rfl ⟨⟨A1, q1, ?_, hRd, ?_⟩, hBE⟩
          · rw [hR.out, HN1.out]
          · rw [hR.out]; exact kc1.out
      · by_cases h2 : n2 < n0
        · have e0 : ((bst n0 n1 n2 3 : Nat) : Int) = 2 := by rw [HE.out, if_pos (by rw [if_neg h]; exact h2)]; rfl
          have hR : Hid (R = (2, x2)) := by have := HR.out; simp only [if_neg h, HN0.out, if_pos h2] at this; exact this
          rw [e0]
          clear h h2 e0 HE HR
          go_wp2
          obtain ⟨WE, hWE⟩ : ∃ WE, (W.setCell ⟨w.heap.size, 0, none⟩ (.int .i64 2)).setCell ⟨w.heap.size, 1, none⟩ (.slice A2 n2 q2) = WE := ⟨_, rfl⟩
          rw [hWE]
          have hE : Blk WE w.heap.size 38 [.int .i64 2, .slice A2 n2 q2] := by rw [← hWE]; exact (hYW.set_ 0 _).set_ 1 _
          have hBE : Below w.heap.size w WE := by rw [← hWE]; exact (hBW.setCell (Nat.le_refl _) _).setCell (Nat.le_refl _) _
          have hRd : RdT WE 3 A2 (ints R.2) := by rw [hR.out, ← hWE]; exact (hx2W.set hYW (by decide) 0 _).set (hYW.set_ 0 _) (by decide) 1 _
          clear hWE
          have z0 := hE.cell 0; have z1 := hE.cell 1; simp only [List.getElem?_cons_zero, List.getElem?_cons_succ] at z0 z1
          refine bodyPost_ret (v := .tuple #[.agg #[.int .i64 2, .slice A2 n2 q2], .int .i64 0]) (by simp [results, Try.results10, go_sem, z0, z1]; try rfl) rfl ⟨⟨A2, q2, ?_, hRd, ?_⟩, hBE⟩
          · rw [hR.out, HN2.out]
          · rw [hR.out]; exact kc2.out
        · have e0 : ((bst n0 n1 n2 3 : Nat) : Int) = 0 := by rw [HE.out, if_neg (by rw [if_neg h]; exact h2), if_neg h]; rfl
          have hR : Hid (R = (0, l)) := by have := HR.out; simp only [if_neg h, HN0.out, if_neg h2] at this; exact this
          rw [e0]
          clear h h2 e0 HE HR
          go_wp2
          obtain ⟨WE, hWE⟩ : ∃ WE, (W.setCell ⟨w.heap.size, 0, none⟩ (.int .i64 0)).setCell ⟨w.heap.size, 1, none⟩ (.slice A0 n0 q0) = WE := ⟨_, rfl⟩
          rw [hWE]
          have hE : Blk WE w.heap.size 38 [.int .i64 0, .slice A0 n0 q0] := by rw [← hWE]; exact (hYW.set_ 0 _).set_ 1 _
          have hBE : Below w.heap.size w WE := by rw [← hWE]; exact (hBW.setCell (Nat.le_refl _) _).setCell (Nat.le_refl _) _
          have hRd : RdT WE 3 A0 (ints R.2) := by rw [hR.out, ← hWE]; exact (hx0W.set hYW (by decide) 0 _).set (hYW.set_ 0 _) (by decide) 1 _
          clear hWE
          have z0 := hE.cell 0; have z1 := hE.cell 1; simp only [List.getElem?_cons_zero, List.getElem?_cons_succ] at z0 z1
          refine bodyPost_ret (v := .tuple #[.agg #[.int .i64 0, .slice A0 n0 q0], .int .i64 0]) (by simp [results, Try.results10, go_sem, z0, z1]; try rfl) rfl ⟨⟨A0, q0, ?_, hRd, ?_⟩, hBE⟩
          · rw [hR.out, HN0.out]
          · rw [hR.out]; exact kc0.out
theorem packed_ok (l : List Int) (A : Option Addr) (c : Nat) (w : World) (hr : Rd w A (ints l)) (hl : l.length ≤ 1000) (he : serE l = 0) :
    Calls Try.prog 10 #[.slice A l.length c] w fun r w' => (∃ A' c', r = .returned (.tuple #[.agg #[.int .i64 (packR l).1, .slice A' (packR l).2.length c'], .int .i64 0]) ∧ RdT w' 3 A' (ints (packR l).2)) ∧ Below w.heap.size w w' :=
  (packed_cap l A c w hr hl he).mono fun _ _ ⟨⟨A', c', h1, h2, _⟩, h3⟩ => ⟨⟨A', c', h1, h2⟩, h3⟩
end Go.Proofs.Ytnjdkdmfeonabaa
