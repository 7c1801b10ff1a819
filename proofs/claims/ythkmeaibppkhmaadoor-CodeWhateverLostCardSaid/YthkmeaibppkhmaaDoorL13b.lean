/- The law CodeWhateverLost where no guard holds. -/
import Derived.Test.YthkmeaibppkhmaaDoorL13
namespace Go.Proofs.YthkmeaibppkhmaaDoor
open Go.RowKit
set_option maxRecDepth 100000


theorem Rd.set2 {w : World} {A : Option Addr} {xs : List Value} {g : Nat} {t : TypeId} (h : Rd w A xs) (hB : Blk w g t [.slice none 0 0, .slice none 0 0]) (hx : ∀ x ∈ xs, ∃ i v, x = .int i v) (u1 u2 : Option Addr) (m1 m2 d1 d2 : Nat) :
    Rd ((w.setCell ⟨g, 0, none⟩ (.slice u1 m1 d1)).setCell ⟨g, 1, none⟩ (.slice u2 m2 d2)) A xs := by
  intro hne
  obtain ⟨b, off, hA, hlt, hc⟩ := h hne
  have hbg : b ≠ g := by
    rintro rfl
    obtain ⟨x, l, rfl⟩ : ∃ x l, xs = x :: l := by cases xs with | nil => exact absurd rfl hne | cons x l => exact ⟨x, l, rfl⟩
    obtain ⟨i, v, rfl⟩ := hx x (by simp)
    have e1 := hc 0 _ rfl
    have e2 := hB.cell off
    rw [Nat.add_zero, e2] at e1
    match off with
    | 0 => simp at e1
    | 1 => simp at e1
    | n + 2 => simp at e1
  refine ⟨b, off, hA, by simpa using hlt, fun j v hj => ?_⟩
  have hq1 : (⟨g, 1, none⟩ : Addr) ≠ ⟨b, off + j, none⟩ := fun e => by injection e with e; exact hbg e.symm
  have hq2 : (⟨g, 0, none⟩ : Addr) ≠ ⟨b, off + j, none⟩ := fun e => by injection e with e; exact hbg e.symm
  rw [World.cell?_setCell_other _ _ _ _ hq1, World.cell?_setCell_other _ _ _ _ hq2]
  exact hc j v hj
theorem gs_int (l : List (Int × Int)) : ∀ x ∈ gs l, ∃ i v, x = Value.int i v := by
  intro x hx
  simp only [gs, List.mem_flatMap] at hx
  obtain ⟨g, _, hx⟩ := hx
  simp at hx
  rcases hx with rfl | rfl
  · exact ⟨_, _, rfl⟩
  · exact ⟨_, _, rfl⟩
theorem ints_int (l : List Int) : ∀ x ∈ ints l, ∃ i v, x = Value.int i v := by
  intro x hx
  simp only [ints, List.mem_map] at hx
  obtain ⟨g, _, rfl⟩ := hx
  exact ⟨_, _, rfl⟩

set_option maxHeartbeats 16000000 in
theorem lost_ok (gain limit : Int) (A G B D : Option Addr) (cA c cB cD : Nat) (samples wave were : List (Int × Int)) (gaps : List Int) (b t : Int) (w : World) (hT : Tab w) (hs : Rd w A (gs samples)) (hr : Rd w G (ints gaps)) (hv : Rd w B (gs wave)) (hd : Rd w D (gs were))
    (us : List Bool) (vals : List (Int × Int)) (miss : List Int) (N : Nat) (lo hi lo2 hi2 an : Nat → Int)
    (HF : Hid (∀ W, Calls Tryd.prog 54 #[.agg #[.int .i64 gain, .int .i64 limit, .slice A samples.length cA, .slice G gaps.length c]] W fun r w' => r = .returned (.bool true) ∧ Below W.heap.size W w'))
    (HFE : Hid (∀ W, Rd W A (gs samples) → Rd W G (ints gaps) → Calls Tryd.prog 62 #[.agg #[.int .i64 gain, .int .i64 limit, .slice A samples.length cA, .slice G gaps.length c]] W fun r w' => r = .returned (.int .i64 0) ∧ Below W.heap.size W w'))
    (HWE : Hid (∀ W, Rd W B (gs wave) → Calls Tryd.prog 63 #[.slice B wave.length cB] W fun r w' => r = .returned (.int .i64 0) ∧ Below W.heap.size W w'))
    (HRE : Hid (∀ W, Calls Tryd.prog 74 #[.agg #[.int .i64 b, .int .i64 t]] W fun r w' => r = .returned (.int .i64 0) ∧ Below W.heap.size W w'))
    (g1 : wave.length ≤ 32) (g2 : wave.length ≤ samples.length) (G3 : Hid (were.length = samples.length)) (g4 : b ≤ 1999990) (g5 : 0 ≤ b) (g6 : 0 ≤ t ∧ t ≤ 1000000000) (g7 : samples.length ≤ 70) (g8 : 1 ≤ wave.length) (HN : Hid (N = samples.length - wave.length + 1))
    (HSM : Hid (∀ g ∈ samples, gle 2000000 g)) (HWV : Hid (∀ g ∈ wave, ∃ t, t < 4 ∧ g = turnG t))
    (HCF : Hid (∀ W, Rd W A (gs samples) → Rd W G (ints gaps) → Calls Tryd.prog 56 #[.agg #[.int .i64 gain, .int .i64 limit, .slice A samples.length cA, .slice G gaps.length c]] W fun r w' => (∃ A' cA' G' c', r = .returned (.agg #[.int .i64 gain, .int .i64 limit, .slice A' samples.length cA', .slice G' gaps.length c']) ∧ RdT w' 76 A' (gs samples) ∧ RdT w' 3 G' (ints gaps)) ∧ Below W.heap.size W w'))
    (HCW : Hid (∀ W, Rd W B (gs wave) → Calls Tryd.prog 61 #[.slice B wave.length cB] W fun r w' => (∃ A' c', r = .returned (.slice A' wave.length c') ∧ RdT w' 76 A' (gs wave)) ∧ Below W.heap.size W w'))
    (HCE : Hid (∀ (A' : Option Addr) (a' : Nat) (G' : Option Addr) (d' : Nat) (B' : Option Addr) (b' : Nat) W, Tab W → Rd W A' (gs samples) → Rd W G' (ints gaps) → Rd W B' (gs wave) → Calls Tryd.prog 60 #[.agg #[.int .i64 gain, .int .i64 limit, .slice A' samples.length a', .slice G' gaps.length d'], .slice B' wave.length b'] W fun r w' =>
      (∃ V M : Option Addr, r = .returned (.tuple #[.agg #[.slice V N N, .slice M N N], .int .i64 0]) ∧ Rd w' V (gs vals) ∧ Rd w' M (ints miss)) ∧ Below W.heap.size W w'))
    (HLE : Hid (∀ (V M : Option Addr) W, Rd W V (gs vals) → Rd W M (ints miss) → Calls Tryd.prog 69 #[.agg #[.slice V N N, .slice M N N]] W fun r w' => r = .returned (.int .i64 0) ∧ Below W.heap.size W w'))
    (HCO : Hid (∀ W, Rd W A (gs samples) → Calls Tryd.prog 61 #[.slice A samples.length cA] W fun r w' => (∃ g c', r = .returned (.slice (some ⟨g, 0, none⟩) samples.length c') ∧ W.heap.size ≤ g ∧ w'.ownsRow W.heap.size 76 2 (.slice (some ⟨g, 0, none⟩) samples.length c') samples.length (gs samples)) ∧ Below W.heap.size W w'))
    (HU : Hid (∀ i, i < samples.length → ∀ W, Rd W A (gs samples) → Rd W G (ints gaps) → Calls Tryd.prog 79 #[.agg #[.int .i64 gain, .int .i64 limit, .slice A samples.length cA, .slice G gaps.length c], .int .i64 i] W fun r w' => r = .returned (.bool (us.getD i false)) ∧ Below W.heap.size W w'))
    (HCL : Hid (∀ (V M : Option Addr) W, Rd W V (gs vals) → Rd W M (ints miss) → Calls Tryd.prog 68 #[.agg #[.slice V N N, .slice M N N]] W fun r w' => (∃ V' q1' M' q2', r = .returned (.agg #[.slice V' N q1', .slice M' N q2']) ∧ RdT w' 76 V' (gs vals) ∧ RdT w' 3 M' (ints miss)) ∧ Below W.heap.size W w'))
    (HLV : Hid (∀ k : Nat, k < N → ∀ (V' M' : Option Addr) (e f : Nat) W, Rd W V' (gs vals) → Rd W M' (ints miss) → Calls Tryd.prog 71 #[.agg #[.slice V' N e, .slice M' N f], .int .i64 k, .int .i64 b] W fun r w' => r = .returned (.tuple #[.agg #[.int .i64 (lo k), .int .i64 (hi k)], .int .i64 0]) ∧ Below W.heap.size W w'))
    (HLW : Hid (∀ k : Nat, k < N → ∀ (V' M' : Option Addr) (e f : Nat) W, Rd W V' (gs vals) → Rd W M' (ints miss) → Calls Tryd.prog 71 #[.agg #[.slice V' N e, .slice M' N f], .int .i64 k, .int .i64 (b + 10)] W fun r w' => r = .returned (.tuple #[.agg #[.int .i64 (lo2 k), .int .i64 (hi2 k)], .int .i64 0]) ∧ Below W.heap.size W w'))
    (HAN : Hid (∀ k : Nat, k < N → ∀ (V' M' : Option Addr) (e f : Nat) W, Rd W V' (gs vals) → Rd W M' (ints miss) → Calls Tryd.prog 72 #[.agg #[.slice V' N e, .slice M' N f], .int .i64 k, .agg #[.int .i64 b, .int .i64 t]] W fun r w' => r = .returned (.tuple #[.int .i64 (an k), .int .i64 0]) ∧ Below W.heap.size W w'))
    (HS : Hid (∀ all, AllI us samples b samples.length all → ∀ k, k < N → ∃ n, n = (fullS all wave k wave.length).1 * (fullS all wave k wave.length).1 + (fullS all wave k wave.length).2 * (fullS all wave k wave.length).2 ∧ lo k ≤ n ∧ n ≤ hi k ∧ lo2 k ≤ lo k ∧ hi k ≤ hi2 k ∧ (an k = 2 → t * t ≤ n) ∧ (an k = 0 → n < t * t))) :
    Calls Tryd.prog 13 #[.agg #[.int .i64 gain, .int .i64 limit, .slice A samples.length cA, .slice G gaps.length c], .agg #[.slice B wave.length cB, .slice D samples.length cD], .agg #[.int .i64 b, .int .i64 t]] w fun r w' => r = .returned (.bool true) ∧ Below w.heap.size w w' := by
  have e1 : decide ((32 : Int) < (wave.length : Int)) = false := by simp; omega
  have e2 : decide ((samples.length : Int) < (wave.length : Int)) = false := by simp; omega
  have e3 : decide (samples.length < wave.length) = false := by simp; omega
  have e6 : decide ((1999990 : Int) < b) = false := by simp; omega
  go_enter Tryd.func13, Tryd.ntmps13
  go_upto_region 1 with fail
  obtain ⟨W, hW⟩ : ∃ W, ((w.alloc (.cells #[.int .i64 gain, .int .i64 limit, .slice A samples.length cA, .slice G gaps.length c] 81)).alloc (.cells #[.slice B wave.length cB, .slice D samples.length cD] 119)).alloc (.cells #[.int .i64 b, .int .i64 t] 105) = W := ⟨_, rfl⟩
  have hwW : Below w.heap.size w W := by rw [← hW]; exact ((alloc_bel _ _).alloc (by simp) _).alloc (by simp; omega) _
  have hX : Blk W w.heap.size 81 [.int .i64 gain, .int .i64 limit, .slice A samples.length cA, .slice G gaps.length c] := by rw [← hW]; exact ((Blk.new w _ [_, _, _, _]).bel (alloc_bel _ _)).bel (alloc_bel _ _)
  have hY : Blk W (w.heap.size + 1) 119 [.slice B wave.length cB, .slice D samples.length cD] := by rw [← hW]; exact (Blk.new2 w 81 119 [.int .i64 gain, .int .i64 limit, .slice A samples.length cA, .slice G gaps.length c] [.slice B wave.length cB, .slice D samples.length cD]).bel (alloc_bel _ _)
  have hR : Blk W (w.heap.size + 1 + 1) 105 [.int .i64 b, .int .i64 t] := by rw [← hW]; exact Blk.new3 w 81 119 105 [.int .i64 gain, .int .i64 limit, .slice A samples.length cA, .slice G gaps.length c] [.slice B wave.length cB, .slice D samples.length cD] [.int .i64 b, .int .i64 t]
  rw [hW]
  clear hW
  obtain ⟨p, hp⟩ : ∃ p, w.heap.size + 1 = p := ⟨_, rfl⟩
  rw [hp] at hY hR ⊢
  obtain ⟨q, hq⟩ : ∃ q, p + 1 = q := ⟨_, rfl⟩
  rw [hq] at hR ⊢
  have hTW := hT.bel hwW
  have hsW := hs.bel hwW
  have hrW := hr.bel hwW
  have hvW := hv.bel hwW
  have hxl := hX.lt
  have hyl := hY.lt
  have hrl := hR.lt
  have c0 := hX.cell 0; have c1 := hX.cell 1; have c2 := hX.cell 2; have c3 := hX.cell 3; simp only [List.getElem?_cons_zero, List.getElem?_cons_succ] at c0 c1 c2 c3
  have y0 := hY.cell 0; have y1 := hY.cell 1; simp only [List.getElem?_cons_zero, List.getElem?_cons_succ] at y0 y1
  have r0 := hR.cell 0; have r1 := hR.cell 1; simp only [List.getElem?_cons_zero, List.getElem?_cons_succ] at r0 r1
  have hdW := hd.bel hwW
  have HX := hide hX
  have HY := hide hY
  have HR := hide hR
  clear hX hY hR hp hq hT hs hr hv hd
  go_upto_region 5 with (first
    | (go_at_call 15; refine (awake_c _ hTW).mono ?_; rintro e w1 ⟨rfl, hb1⟩; have k1 := (kp hb1).1)
    | (go_at_call 54; refine (HF.out _).mono ?_; rintro e w2 ⟨rfl, hb2⟩; have hB2 := bel_tr hb1 hb1.size hb2; have k2 := (kp hB2).1)
    | (go_at_call 62; refine (HFE.out _ (hsW.bel hB2) (hrW.bel hB2)).mono ?_; rintro e w3 ⟨rfl, hb3⟩; have hB3 := bel_tr hB2 hB2.size hb3; have k3 := (kp hB3).1)
    | (go_at_call 63; refine (HWE.out _ (hvW.bel hB3)).mono ?_; rintro e w4 ⟨rfl, hb4⟩; have hB4 := bel_tr hB3 hB3.size hb4; have k4 := (kp hB4).1)
    | (go_at_call 74; refine (HRE.out _).mono ?_; rintro e w5 ⟨rfl, hb5⟩; have hB5 := bel_tr hB4 hB4.size hb5; have k5 := (kp hB5).1)
    )
  have s5 := hB5.size
  clear e1 e2 e3 e6
  go_cut [7, 8] from 72 to 80 (fun t7 t8 wx => ∃ (L : Nat) (V9 M9 : Option Addr), t7 = .pointer (some ⟨L, 0, none⟩) ∧ t8 = .int .i64 0 ∧ W.heap.size ≤ L ∧ Blk wx L 89 [.slice V9 N N, .slice M9 N N] ∧ (Rd wx V9 (gs vals) ∧ Rd wx M9 (ints miss)) ∧ Below W.heap.size W wx)
  case first =>
    go_region_held3 (fun w' => (∀ b o, b < W.heap.size → w'.cell? ⟨b, o, none⟩ = W.cell? ⟨b, o, none⟩) ∧ Below W.heap.size W w')
      (((refine kp ?_; ((repeat' (first | with_reducible exact Below.refl _ _ | with_reducible exact hB5 | with_reducible exact HB6.out | with_reducible exact HB7.out | with_reducible exact HB8.out | with_reducible refine Below.drew ?_ | with_reducible refine bel_alloc ?_ ?_ _ | with_reducible refine Below.setCell ?_ ?_ _)); all_goals (first | omega | (simp <;> omega))))))
      (first
        | (go_at_call 56; refine (HCF.out _ (hsW.bel (by ((repeat' (first | with_reducible exact Below.refl _ _ | with_reducible exact hB5 | with_reducible exact HB6.out | with_reducible exact HB7.out | with_reducible exact HB8.out | with_reducible refine Below.drew ?_ | with_reducible refine bel_alloc ?_ ?_ _ | with_reducible refine Below.setCell ?_ ?_ _)); all_goals (first | omega | (simp <;> omega))))) (hrW.bel (by ((repeat' (first | with_reducible exact Below.refl _ _ | with_reducible exact hB5 | with_reducible exact HB6.out | with_reducible exact HB7.out | with_reducible exact HB8.out | with_reducible refine Below.drew ?_ | with_reducible refine bel_alloc ?_ ?_ _ | with_reducible refine Below.setCell ?_ ?_ _)); all_goals (first | omega | (simp <;> omega)))))).mono ?_; rintro e w6 ⟨⟨A6, a6, G6, d6, rfl, hs6, hr6⟩, hb6⟩; have HB6 : Hid (Below W.heap.size W w6) := (by refine bel_tr ?_ ?_ hb6; ((repeat' (first | with_reducible exact Below.refl _ _ | with_reducible exact hB5 | with_reducible exact HB6.out | with_reducible exact HB7.out | with_reducible exact HB8.out | with_reducible refine Below.drew ?_ | with_reducible refine bel_alloc ?_ ?_ _ | with_reducible refine Below.setCell ?_ ?_ _)); all_goals (first | omega | (simp <;> omega)))); have s6 := HB6.out.size)
        | (go_at_call 61; refine (HCW.out _ (hvW.bel (by ((repeat' (first | with_reducible exact Below.refl _ _ | with_reducible exact hB5 | with_reducible exact HB6.out | with_reducible exact HB7.out | with_reducible exact HB8.out | with_reducible refine Below.drew ?_ | with_reducible refine bel_alloc ?_ ?_ _ | with_reducible refine Below.setCell ?_ ?_ _)); all_goals (first | omega | (simp <;> omega)))))).mono ?_; rintro e w7 ⟨⟨B7, b7, rfl, hv7⟩, hb7⟩; have HB7 : Hid (Below W.heap.size W w7) := (by refine bel_tr ?_ ?_ hb7; ((repeat' (first | with_reducible exact Below.refl _ _ | with_reducible exact hB5 | with_reducible exact HB6.out | with_reducible exact HB7.out | with_reducible exact HB8.out | with_reducible refine Below.drew ?_ | with_reducible refine bel_alloc ?_ ?_ _ | with_reducible refine Below.setCell ?_ ?_ _)); all_goals (first | omega | (simp <;> omega)))); have s7 := HB7.out.size; have h67 : Below w6.heap.size w6 w7 := (by refine bel_tr ?_ ?_ hb7; ((repeat' (first | with_reducible exact Below.refl _ _ | with_reducible refine Below.drew ?_ | with_reducible refine bel_alloc ?_ ?_ _)); all_goals (first | omega | (simp <;> omega)))); have hs7 := hs6.bel h67; have hr7 := hr6.bel h67)
        | (go_at_call 60; refine (HCE.out A6 a6 G6 d6 B7 b7 _ (hTW.bel (by ((repeat' (first | with_reducible exact Below.refl _ _ | with_reducible exact hB5 | with_reducible exact HB6.out | with_reducible exact HB7.out | with_reducible exact HB8.out | with_reducible refine Below.drew ?_ | with_reducible refine bel_alloc ?_ ?_ _ | with_reducible refine Below.setCell ?_ ?_ _)); all_goals (first | omega | (simp <;> omega))))) (hs7.bel (by ((repeat' (first | with_reducible exact Below.refl _ _ | with_reducible refine Below.drew ?_ | with_reducible refine bel_alloc ?_ ?_ _)); all_goals (first | omega | (simp <;> omega))))).1 (hr7.bel (by ((repeat' (first | with_reducible exact Below.refl _ _ | with_reducible refine Below.drew ?_ | with_reducible refine bel_alloc ?_ ?_ _)); all_goals (first | omega | (simp <;> omega))))).1 (hv7.bel (by ((repeat' (first | with_reducible exact Below.refl _ _ | with_reducible refine Below.drew ?_ | with_reducible refine bel_alloc ?_ ?_ _)); all_goals (first | omega | (simp <;> omega))))).1).mono ?_; rintro e w8 ⟨⟨V8, M8, rfl, hV8, hM8⟩, hb8⟩; have HB8 : Hid (Below W.heap.size W w8) := (by refine bel_tr ?_ ?_ hb8; ((repeat' (first | with_reducible exact Below.refl _ _ | with_reducible exact hB5 | with_reducible exact HB6.out | with_reducible exact HB7.out | with_reducible exact HB8.out | with_reducible refine Below.drew ?_ | with_reducible refine bel_alloc ?_ ?_ _ | with_reducible refine Below.setCell ?_ ?_ _)); all_goals (first | omega | (simp <;> omega)))); have s8 := HB8.out.size; (try (refine (have B5 : Blk w8 (w5.heap.size) 89 [.slice none 0 0, .slice none 0 0] := ?_; ?_); (focus ((repeat' (first | with_reducible exact Blk.new _ _ [_, _] | with_reducible refine Blk.dr ?_ | with_reducible refine Blk.bel ?_ (alloc_bel _ _) | with_reducible refine Blk.bel ?_ hb8 | with_reducible refine Blk.bel ?_ hb7 | with_reducible refine Blk.bel ?_ hb6)); done)); have cb50 := B5.cell 0; have cb51 := B5.cell 1; simp only [List.getElem?_cons_zero, List.getElem?_cons_succ] at cb50 cb51; have db50 := B5.frozen 0; have db51 := B5.frozen 1; clear B5)); (try (refine (have B6 : Blk w8 (w6.heap.size) 89 [.slice none 0 0, .slice none 0 0] := ?_; ?_); (focus ((repeat' (first | with_reducible exact Blk.new _ _ [_, _] | with_reducible refine Blk.dr ?_ | with_reducible refine Blk.bel ?_ (alloc_bel _ _) | with_reducible refine Blk.bel ?_ hb8 | with_reducible refine Blk.bel ?_ hb7 | with_reducible refine Blk.bel ?_ hb6)); done)); have cb60 := B6.cell 0; have cb61 := B6.cell 1; simp only [List.getElem?_cons_zero, List.getElem?_cons_succ] at cb60 cb61; have db60 := B6.frozen 0; have db61 := B6.frozen 1; clear B6)); (try (refine (have B7 : Blk w8 (w7.heap.size) 89 [.slice none 0 0, .slice none 0 0] := ?_; ?_); (focus ((repeat' (first | with_reducible exact Blk.new _ _ [_, _] | with_reducible refine Blk.dr ?_ | with_reducible refine Blk.bel ?_ (alloc_bel _ _) | with_reducible refine Blk.bel ?_ hb8 | with_reducible refine Blk.bel ?_ hb7 | with_reducible refine Blk.bel ?_ hb6)); done)); have cb70 := B7.cell 0; have cb71 := B7.cell 1; simp only [List.getElem?_cons_zero, List.getElem?_cons_succ] at cb70 cb71; have db70 := B7.frozen 0; have db71 := B7.frozen 1; clear B7))))
    all_goals
      go_wp2
      go_meet
      refine ⟨_, V8, M8, rfl, rfl, by first | omega | (simp <;> omega), ?_, ⟨?_, ?_⟩, ?_⟩
      · (repeat' (first | with_reducible exact Blk.new _ _ [_, _] | with_reducible refine Blk.set2 (a := .slice none 0 0) (b := .slice none 0 0) ?_ _ _ | with_reducible refine Blk.dr ?_ | with_reducible refine Blk.bel ?_ (alloc_bel _ _) | with_reducible refine Blk.bel ?_ hb8 | with_reducible refine Blk.bel ?_ hb7 | with_reducible refine Blk.bel ?_ hb6))
      · first
          | exact hV8.bel (alloc_bel _ _)
          | (refine Rd.set2 hV8 (t := 89) ?_ (gs_int _) _ _ _ _ _ _
             (repeat' (first | with_reducible exact Blk.new _ _ [_, _] | with_reducible refine Blk.set2 (a := .slice none 0 0) (b := .slice none 0 0) ?_ _ _ | with_reducible refine Blk.dr ?_ | with_reducible refine Blk.bel ?_ (alloc_bel _ _) | with_reducible refine Blk.bel ?_ hb8 | with_reducible refine Blk.bel ?_ hb7 | with_reducible refine Blk.bel ?_ hb6)))
      · first
          | exact hM8.bel (alloc_bel _ _)
          | (refine Rd.set2 hM8 (t := 89) ?_ (ints_int _) _ _ _ _ _ _
             (repeat' (first | with_reducible exact Blk.new _ _ [_, _] | with_reducible refine Blk.set2 (a := .slice none 0 0) (b := .slice none 0 0) ?_ _ _ | with_reducible refine Blk.dr ?_ | with_reducible refine Blk.bel ?_ (alloc_bel _ _) | with_reducible refine Blk.bel ?_ hb8 | with_reducible refine Blk.bel ?_ hb7 | with_reducible refine Blk.bel ?_ hb6)))
      · ((repeat' (first | with_reducible exact Below.refl _ _ | with_reducible exact hB5 | with_reducible exact HB6.out | with_reducible exact HB7.out | with_reducible exact HB8.out | with_reducible refine Below.drew ?_ | with_reducible refine bel_alloc ?_ ?_ _ | with_reducible refine Below.setCell ?_ ?_ _)); all_goals (first | omega | (simp <;> omega)))
  obtain ⟨L, V9, M9, rfl, rfl, hLW, hL9, ⟨hV9, hM9⟩, hB9⟩ := hcut
  obtain ⟨w9, hw9⟩ : ∃ w9 : World, wc = w9 := ⟨_, rfl⟩
  rw [hw9] at hL9 hV9 hM9 hB9 ⊢
  clear hw9 k1 k2 k3 k4 k5 HCE HCF HCW s5
  have k9 := (kp hB9).1
  have l0 := hL9.cell 0; have l1 := hL9.cell 1; simp only [List.getElem?_cons_zero, List.getElem?_cons_succ] at l0 l1
  have hNi := HN.out
  have hN70 : N ≤ 70 := by omega
  have eN : ((N : Int) != (samples.length : Int) - (wave.length : Int) + 1) = false := by simp; omega
  clear hNi
  go_upto_region 8 with (first
    | (go_at_call 69; refine (HLE.out V9 M9 _ hV9 hM9).mono ?_; rintro e w10 ⟨rfl, hb10⟩; have hB10 := bel_tr hB9 hB9.size hb10; have k10 := (kp hB10).1; have hL10 := hL9.bel hb10; have lt10 := hL10.lt; have l0 := hL10.cell 0; have l1 := hL10.cell 1; simp only [List.getElem?_cons_zero, List.getElem?_cons_succ] at l0 l1))
  go_upto_region 9 with (first
    | (go_at_call 61; refine (HCO.out _ (hsW.bel hB10)).mono ?_; rintro e w11 ⟨⟨g, c', rfl, hgl, hO⟩, hb11⟩))
  have hX10 := HX.out.bel hB10
  have hY10 := HY.out.bel hB10
  have hR10 := HR.out.bel hB10
  have hV10 := hV9.bel hb10
  have hM10 := hM9.bel hb10
  have hdb := hdW.bel hB10
  clear k9 k10 lt10 c0 c1 c2 c3 y0 y1 r0 r1 l0 l1 hL9 hV9 hM9 HX HY HR eN HLE HCO HF HFE HWE HRE
  go_wp2
  go_loopw [10] (fun t wr => ∃ (k : Nat) (all : List (Int × Int)), k ≤ samples.length ∧ t = .int .i64 k ∧ Below w10.heap.size w10 wr ∧ AllI us samples b k all ∧ wr.ownsRow w10.heap.size 76 2 (.slice (some ⟨g, 0, none⟩) samples.length c') samples.length (gs all)) (fun t _ => samples.length - (intOf t).toNat)
  case atStart => exact ⟨0, samples, Nat.zero_le _, rfl, hb11, AllI.zero _ _ _, hO⟩
  case round =>
    obtain ⟨k, all, hk, rfl, hbr, hA, hOr⟩ := hrel
    have hWr : Below W.heap.size W wr := bel_tr hB10 hB10.size hbr
    have hXr := hX10.bel hbr
    have hYr := hY10.bel hbr
    have hRr := hR10.bel hbr
    by_cases hlt : k < samples.length
    · have HUk := hide (HU.out k hlt wr (hsW.bel hWr) (hrW.bel hWr))
      have HA := hide hA
      have hal := hA.len
      have HOr := hide hOr
      clear hA hOr hO
      have c0 := hXr.cell 0; have c1 := hXr.cell 1; have c2 := hXr.cell 2; have c3 := hXr.cell 3; simp only [List.getElem?_cons_zero, List.getElem?_cons_succ] at c0 c1 c2 c3
      cases hu : us.getD k false
      · rw [hu] at HUk
        have HUN := hide hu
        clear hu
        have hlw : k < were.length := by rw [G3.out]; exact hlt
        obtain ⟨bD, oD, rfl, hbD, v0, v1⟩ := (hdb.bel hbr).g_at hlw
        generalize were[k] = gw at v0 v1
        obtain ⟨x, y⟩ := gw
        dsimp only at v0 v1
        go_upto_region 13 with (first | (go_at_call 79; refine HUk.out.mono ?_; rintro e w12 ⟨rfl, hb12⟩))
        have hY12 := hYr.bel hb12
        have hR12 := hRr.bel hb12
        have u0 := (hb12.cell (p := ⟨bD, _, none⟩) hbD).trans v0
        have u1 := (hb12.cell (p := ⟨bD, _, none⟩) hbD).trans v1
        have hW12 : Below w10.heap.size w10 w12 := bel_tr hbr hbr.size hb12
        have hO12 := ownsRow_bel HOr.out hb12
        have ix0 : (0 : Int) ≤ (k : Int) := by omega
        have ix1 : (k : Int) < (samples.length : Int) := by omega
        clear v0 v1 hbD c0 c1 c2 c3 hlw HUk hdb hdW hal HOr
        have y0 := hY12.cell 0; have y1 := hY12.cell 1; simp only [List.getElem?_cons_zero, List.getElem?_cons_succ] at y0 y1
        have r0 := hR12.cell 0; have r1 := hR12.cell 1; simp only [List.getElem?_cons_zero, List.getElem?_cons_succ] at r0 r1
        have HQ1 := hide (fun W => within_c x (-b) b W)
        have HQ2 := hide (fun W => within_c y (-b) b W)
        cases hx : outB x (-b) b
        · cases hy : outB y (-b) b
          · rw [hx] at HQ1
            rw [hy] at HQ2
            have hgb : gle b (x, y) := by
              have h1 := outB_false.1 hx
              have h2 := outB_false.1 hy
              exact ⟨h1.1, h1.2, h2.1, h2.2⟩
            have hA2 := HA.out.miss HUN.out hlt hgb
            have hlen := HA.out.len
            clear hx hy hgb
            go_quiet ((first | (go_at_call_of 26 (Value.int .i64 x); exact quiet_eq (HQ1.out _)) | (go_at_call_of 26 (Value.int .i64 y); exact quiet_eq (HQ2.out _))))
            obtain ⟨z1, z2⟩ := gs_at (l := all) (k := k) (by omega)
            have z3 := (hO12.cellAt (k * 2) (by omega)).trans z1
            have z4 := (hO12.cellAt (k * 2 + 1) (by omega)).trans z2
            have z5 := hO12.frozenAt (k * 2)
            have z6 := hO12.frozenAt (k * 2 + 1)
            clear z1 z2
            go_wp2
            go_roundw
            case rel =>
              refine ⟨k + 1, _, by omega, by go_num, ((below_drewN hW12 _).setCell hgl _).setCell hgl _, hA2, ?_⟩
              rw [← gs_set (by omega)]
              exact (((ownsRow_bel hO12 (below_drewN (Below.refl _ _) _)).stored (k * 2) _).1.stored (k * 2 + 1) _).1
            case measure => simp [intOf]; omega
          · rw [hx] at HQ1
            rw [hy] at HQ2
            clear hx hy
            go_quiet ((first | (go_at_call_of 26 (Value.int .i64 x); exact quiet_eq (HQ1.out _)) | (go_at_call_of 26 (Value.int .i64 y); exact quiet_eq (HQ2.out _))))
            go_wp2
            go_ret
            exact ⟨rfl, bel_tr hwW hwW.size (bel_tr hB10 hB10.size (below_drewN hW12 _))⟩
        · rw [hx] at HQ1
          clear hx HQ2
          go_quiet ((first | (go_at_call 26; exact quiet_eq (HQ1.out _))))
          go_wp2
          go_ret
          exact ⟨rfl, bel_tr hwW hwW.size (bel_tr hB10 hB10.size (below_drewN hW12 _))⟩
      · rw [hu] at HUk
        have HUN := hide hu
        clear hu
        go_wp2_with (first | (go_at_call 79; refine HUk.out.mono ?_; rintro e w12 ⟨rfl, hb12⟩))
        go_roundw
        case rel => exact ⟨k + 1, all, by omega, by go_num, bel_tr hbr hbr.size hb12, HA.out.hit HUN.out, ownsRow_bel HOr.out hb12⟩
        case measure => simp [intOf]; omega
    · obtain rfl : k = samples.length := by omega
      have HSk := hide (HS.out all hA)
      have hal := hA.len
      have HAB := hide (fun i (h : i < samples.length) => hA.bound HSM.out (by omega) h)
      have hgO : Rd wr (some ⟨g, 0, none⟩) (gs all) := Rd.of_own hOr
      have hLr := hL10.bel hbr
      have hVr := hV10.bel hbr
      have hMr := hM10.bel hbr
      have hvr := hvW.bel hWr
      clear hO hA hOr hb11 HU hk hlt hXr hdb hdW HS hL10 hV10 hM10 hX10 hY10 hR10
      go_wp2
      obtain ⟨w20, rfl⟩ : ∃ w20 : World, w20 = wr := ⟨_, rfl⟩
      go_loopw [11] (fun t wr => ∃ (k : Nat), k ≤ N ∧ t = .int .i64 k ∧ Below w20.heap.size w20 wr) (fun t _ => N - (intOf t).toNat)
      case atStart => exact ⟨0, Nat.zero_le _, rfl, Below.refl _ _⟩
      case round =>
        obtain ⟨k, hk, rfl, hbk⟩ := hrel
        have hLk := hLr.bel hbk
        have l0 := hLk.cell 0; have l1 := hLk.cell 1; simp only [List.getElem?_cons_zero, List.getElem?_cons_succ] at l0 l1
        by_cases hlt : k < N
        · have hkl : k + wave.length ≤ samples.length := by have := HN.out; omega
          have HFB := hide (fun i h => fullS_bd (lag := k) (n := samples.length) HAB.out HWV.out i h hkl)
          go_wp2
          obtain ⟨W2, hW2⟩ : ∃ W2, wr.alloc (.cells #[.int .i64 0, .int .i64 0] 76) = W2 := ⟨_, rfl⟩
          have hrW : Below wr.heap.size wr W2 := by rw [← hW2]; exact alloc_bel _ _
          have hSW : Blk W2 wr.heap.size 76 [.int .i64 0, .int .i64 0] := by rw [← hW2]; exact Blk.new wr _ [_, _]
          rw [hW2]
          clear hW2
          have hW2k : Below w20.heap.size w20 W2 := bel_tr hbk hbk.size hrW
          have hY2 := hYr.bel hW2k
          have hpz : p < wr.heap.size := by have := hYr.lt; have := hbk.size; omega
          have hz20 : w20.heap.size ≤ wr.heap.size := hbk.size
          obtain ⟨z, hz0⟩ : ∃ z, wr.heap.size = z := ⟨_, rfl⟩
          rw [hz0] at hSW hpz hz20 ⊢
          clear hrW hbk hLk l0 l1 hz0
          go_loopw [13] (fun t wq => ∃ (i : Nat) (x y : Int), i ≤ wave.length ∧ t = .int .i64 i ∧ (x, y) = fullS all wave k i ∧ Below z W2 wq ∧ W2.heap.size ≤ wq.heap.size ∧ Blk wq z 76 [.int .i64 x, .int .i64 y]) (fun t _ => wave.length - (intOf t).toNat)
          case atStart => exact ⟨0, 0, 0, Nat.zero_le _, rfl, rfl, Below.refl _ _, Nat.le_refl _, hSW⟩
          case round =>
            obtain ⟨i, x, y, hil0, rfl, hxy, hbq, hzq, hSq⟩ := hrel
            have hYq := hY2.below hbq hpz
            have hbk2 : Below w20.heap.size w20 wr := hW2k.trans (hbq.mono hz20)
            have hvq := hvr.bel hbk2
            have hgq := hgO.bel hbk2
            have b0 := hSq.cell 0
            have b1 := hSq.cell 1
            simp only [List.getElem?_cons_zero, List.getElem?_cons_succ] at b0 b1
            have y0 := hYq.cell 0; have y1 := hYq.cell 1; simp only [List.getElem?_cons_zero, List.getElem?_cons_succ] at y0 y1
            by_cases hil : i < wave.length
            · have hik : i + k < all.length := by omega
              have HSs : Hid (fullS all wave k (i + 1) = gadd (x, y) (gmul (gconj wave[i]) all[i + k])) := by
                show _ = _
                rw [fullS, ← hxy]
                simp only [List.getD, List.getElem?_eq_getElem hil, List.getElem?_eq_getElem hik, Option.getD_some]
              have hbd := HFB.out i hil0
              rw [← hxy] at hbd
              clear hxy
              obtain ⟨tn, ht, hgt⟩ := HWV.out _ (List.getElem_mem hil)
              obtain ⟨j, hj, hcj⟩ := conj_turn ht
              have hsm : gle 2000000 all[i + k] := by
                have h := HAB.out (i + k) (by omega)
                rw [List.getD, List.getElem?_eq_getElem hik, Option.getD_some] at h
                exact h
              have htm := gle_turn hj hsm
              have hjm : Mid (turnG j) := by
                have e : j = 0 ∨ j = 1 ∨ j = 2 ∨ j = 3 := by omega
                rcases e with rfl | rfl | rfl | rfl <;> (unfold Mid; decide)
              rw [hgt, hcj] at HSs
              obtain ⟨bG, oG, hGe, hbG, s0, s1⟩ := hgq.g_at hik
              obtain ⟨rfl, rfl⟩ : g = bG ∧ 0 = oG := by injection hGe with h; injection h with h1 h2; exact ⟨h1, h2⟩
              rw [Nat.zero_add] at s0 s1
              obtain ⟨bB, oB, rfl, hbB, v0, v1⟩ := hvq.g_at hil
              rw [hgt] at v0 v1
              have hga : -1 ≤ (turnG tn).2 ∧ (turnG tn).2 ≤ 1 := by
                have e : tn = 0 ∨ tn = 1 ∨ tn = 2 ∨ tn = 3 := by omega
                rcases e with rfl | rfl | rfl | rfl <;> decide
              clear hgt ht hj hGe
              generalize all[i + k] = smp at s0 s1 HSs hsm htm
              generalize turnG tn = gt at v0 v1 hcj hga
              generalize turnG j = gj at HSs htm hcj hjm
              subst hcj
              obtain ⟨sa, sb⟩ := smp
              obtain ⟨ga, gb⟩ := gt
              dsimp only at s0 s1 v0 v1 hga
              have HG1 := hide (fun W => gconj_c (ga, gb) W (by dsimp only; omega) (by dsimp only; omega))
              have HG2 := hide (fun W => gmul_c (gconj (ga, gb)) (sa, sb) W hjm (by obtain ⟨e1, e2, e3, e4⟩ := hsm; unfold Mid; dsimp only at *; omega))
              have HG3 := hide (fun W => gadd_c (x, y) (gmul (gconj (ga, gb)) (sa, sb)) W (by obtain ⟨e1, e2, e3, e4⟩ := hbd; dsimp only at *; omega) (by obtain ⟨e1, e2, e3, e4⟩ := htm; omega))
              generalize gadd (x, y) (gmul (gconj (ga, gb)) (sa, sb)) = new at HG3 HSs
              generalize gmul (gconj (ga, gb)) (sa, sb) = pr at HG2 HG3
              obtain ⟨nx, ny⟩ := new
              obtain ⟨px, py⟩ := pr
              dsimp only [gconj] at HG1 HG2 HG3
              clear hsm htm hjm hga hbd
              have HSd := hide (show wr.cell? ⟨z, 0, none⟩ = some (.int .i64 x) ∧ wr.cell? ⟨z, 1, none⟩ = some (.int .i64 y) ∧ wr.cell? ⟨bB, oB + i * 2, none⟩ = some (.int .i64 ga) ∧ wr.cell? ⟨bB, oB + i * 2 + 1, none⟩ = some (.int .i64 gb) ∧ wr.cell? ⟨p, 0, none⟩ = some (.slice (some ⟨bB, oB, none⟩) wave.length cB) ∧
                  wr.cell? ⟨g, (i + k) * 2, none⟩ = some (.int .i64 sa) ∧ wr.cell? ⟨g, (i + k) * 2 + 1, none⟩ = some (.int .i64 sb) ∧ Below wr.heap.size wr wr from ⟨b0, b1, v0, v1, y0, s0, s1, Below.refl _ _⟩)
              have ix0 : (0 : Int) ≤ (i : Int) := by omega
              have ix1 : (i : Int) < (wave.length : Int) := by omega
              have ix2 : (0 : Int) ≤ (i : Int) + (k : Int) := by omega
              have ix3 : (i : Int) + (k : Int) < (samples.length : Int) := by omega
              have ix4 : ((i : Int) + (k : Int)).toNat = i + k := by omega
              have ix5 : IntKind.i64.wrap ((i : Int) + (k : Int)) = (i : Int) + (k : Int) := by simp (disch := omega) only [IntWalk.i64_in]
              clear b0 b1
              go_upto_region 23 with fail
              clear v0 v1 s0 s1 y0 y1
              refine wp_region_M (fun w' => w'.cell? ⟨z, 0, none⟩ = some (.int .i64 x) ∧ w'.cell? ⟨z, 1, none⟩ = some (.int .i64 y) ∧ w'.cell? ⟨bB, oB + i * 2, none⟩ = some (.int .i64 ga) ∧ w'.cell? ⟨bB, oB + i * 2 + 1, none⟩ = some (.int .i64 gb) ∧ w'.cell? ⟨p, 0, none⟩ = some (.slice (some ⟨bB, oB, none⟩) wave.length cB) ∧
                  w'.cell? ⟨g, (i + k) * 2, none⟩ = some (.int .i64 sa) ∧ w'.cell? ⟨g, (i + k) * 2 + 1, none⟩ = some (.int .i64 sb) ∧ Below wr.heap.size wr w') 15 (by kernel_rfl) ?_
              have hSd := hd7_drew HSd.out
              refine AnyM.take (i := 0) (v := ?_) rfl (by kernel_rfl) (by kernel_rfl) (by kernel_rfl) (by kernel_rfl) (fun _ _ _ h => h) (Or.inl ⟨by rfl, ?_⟩) (by assumption) ?_
              rotate_left 1
              · (intro w hSw; (try dsimp only at hSw); go_simp <;> with_reducible rfl)
              try simp only [Act.put]
              refine AnyM.take (i := 1) (v := ?_) rfl (by kernel_rfl) (by kernel_rfl) (by kernel_rfl) (by kernel_rfl) (fun _ _ _ h => h) (Or.inl ⟨by rfl, ?_⟩) (by assumption) ?_
              rotate_left 1
              · (intro w hSw; (try dsimp only at hSw); go_simp <;> with_reducible rfl)
              try simp only [Act.put]
              refine AnyM.take (i := 2) (v := ?_) rfl (by kernel_rfl) (by kernel_rfl) (by kernel_rfl) (by kernel_rfl) (fun _ _ _ h => h) (Or.inl ⟨by rfl, ?_⟩) (by assumption) ?_
              rotate_left 1
              · (intro w hSw; (try dsimp only at hSw); go_simp <;> with_reducible rfl)
              try simp only [Act.put]
              refine AnyM.take (i := 3) (v := ?_) rfl (by kernel_rfl) (by kernel_rfl) (by kernel_rfl) (by kernel_rfl) (fun _ _ _ h => h) (Or.inl ⟨by rfl, ?_⟩) (by assumption) ?_
              rotate_left 1
              · (intro w hSw; (try dsimp only at hSw); go_simp <;> with_reducible rfl)
              try simp only [Act.put]
              refine AnyM.take (i := 4) (v := ?_) rfl (by kernel_rfl) (by kernel_rfl) (by kernel_rfl) (by kernel_rfl) (fun _ _ _ h => h) (Or.inl ⟨by rfl, ?_⟩) (by assumption) ?_
              rotate_left 1
              · (intro w hSw; (try dsimp only at hSw); go_simp <;> with_reducible rfl)
              try simp only [Act.put]
              refine AnyM.take (i := 5) (v := ?_) rfl (by kernel_rfl) (by kernel_rfl) (by kernel_rfl) (by kernel_rfl) (fun _ _ _ h => h) (Or.inl ⟨by rfl, ?_⟩) (by assumption) ?_
              rotate_left 1
              · (intro w hSw; (try dsimp only at hSw); go_simp <;> with_reducible rfl)
              try simp only [Act.put]
              refine AnyM.take (i := 7) (v := ?_) rfl (by kernel_rfl) (by kernel_rfl) (by kernel_rfl) (by kernel_rfl) (fun _ _ _ h => h) (Or.inl ⟨by rfl, ?_⟩) (by assumption) ?_
              rotate_left 1
              · (intro w hSw; (try dsimp only at hSw); go_simp <;> with_reducible rfl)
              try simp only [Act.put]
              refine AnyM.take (i := 8) (v := ?_) rfl (by kernel_rfl) (by kernel_rfl) (by kernel_rfl) (by kernel_rfl) (fun _ _ _ h => h) (Or.inl ⟨by rfl, ?_⟩) (by assumption) ?_
              rotate_left 1
              · (intro w hSw; (try dsimp only at hSw); go_simp <;> with_reducible rfl)
              try simp only [Act.put]
              refine AnyM.take (i := 9) (v := ?_) rfl (by kernel_rfl) (by kernel_rfl) (by kernel_rfl) (by kernel_rfl) (fun _ _ _ h => h) (Or.inl ⟨by rfl, ?_⟩) (by assumption) ?_
              rotate_left 1
              · (intro w hSw; (try dsimp only at hSw); go_simp <;> with_reducible rfl)
              try simp only [Act.put]
              refine AnyM.take (i := 10) (v := ?_) rfl (by kernel_rfl) (by kernel_rfl) (by kernel_rfl) (by kernel_rfl) (fun _ _ _ h => h) (Or.inl ⟨by rfl, ?_⟩) (by assumption) ?_
              rotate_left 1
              · (intro w hSw; (try dsimp only at hSw); go_simp <;> with_reducible rfl)
              try simp only [Act.put]
              refine AnyM.take (i := 11) (v := ?_) rfl (by kernel_rfl) (by kernel_rfl) (by kernel_rfl) (by kernel_rfl) (fun _ _ _ h => h) (Or.inl ⟨by rfl, ?_⟩) (by assumption) ?_
              rotate_left 1
              · (intro w hSw; (try dsimp only at hSw); go_simp <;> with_reducible rfl)
              try simp only [Act.put]
              refine AnyM.take (i := 12) (v := ?_) rfl (by kernel_rfl) (by kernel_rfl) (by kernel_rfl) (by kernel_rfl) (fun _ _ _ h => h) (Or.inl ⟨by rfl, ?_⟩) (by assumption) ?_
              rotate_left 1
              · (intro w hSw; (try dsimp only at hSw); go_simp <;> with_reducible rfl)
              try simp only [Act.put]
              refine AnyM.next [6] (by kernel_rfl) (by simp) ?_
              refine NextM.cons rfl (fun K hK => ?_) NextM.nil
              go_simp
              refine (HG1.out _).mono ?_
              rintro e w7 ⟨rfl, hb7⟩
              have hS7 := hd7_bel hSd hb7 (by simp)
              have hG7 : Blk w7 z 76 [.int .i64 x, .int .i64 y] := (hSq.drewN 1).bel hb7
              try dsimp only
              refine hK.out _ _ (fun _ => hS7) ?_
              clear hK K
              try simp only [Act.put]
              refine AnyM.next [13] (by kernel_rfl) (by simp) ?_
              refine NextM.cons rfl (fun K hK => ?_) NextM.nil
              go_simp
              refine (HG2.out _).mono ?_
              rintro e w8 ⟨rfl, hb8⟩
              have hS8 := hd7_bel hS7 hb8 hS7.2.2.2.2.2.2.2.size
              have hG8 := hG7.bel hb8
              try dsimp only
              refine hK.out _ _ (fun _ => hS8) ?_
              clear hK K
              try simp only [Act.put]
              refine AnyM.next [14] (by kernel_rfl) (by simp) ?_
              refine NextM.cons rfl (fun K hK => ?_) NextM.nil
              go_simp
              refine (HG3.out _).mono ?_
              rintro e w9 ⟨rfl, hb9⟩
              have hS9 := hd7_bel hS8 hb9 hS8.2.2.2.2.2.2.2.size
              have hG9 := hG8.bel hb9
              try dsimp only
              refine hK.out _ _ (fun _ => hS9) ?_
              clear hK K
              try simp only [Act.put]
              refine AnyM.next [15] (by kernel_rfl) (by simp) ?_
              refine NextM.cons rfl (fun K hK => ?_) NextM.nil
              have m0 := hG9.cell 0; have m1 := hG9.cell 1; simp only [List.getElem?_cons_zero, List.getElem?_cons_succ] at m0 m1
              have f0 := hG9.frozen 0
              have f1 := hG9.frozen 1
              go_simp
              refine hK.out _ _ (fun h => by simp at h) ?_
              clear hK K
              try simp only [Act.put]
              refine AnyM.done (by kernel_rfl) ?_ _
              have hGE := (hG9.set_ 0 (.int .i64 nx)).set_ 1 (.int .i64 ny)
              have hzr : z ≤ wr.heap.size := Nat.le_of_lt hSq.lt
              have hbE : Below z W2 ((w9.setCell ⟨z, 0, none⟩ (.int .i64 nx)).setCell ⟨z, 1, none⟩ (.int .i64 ny)) :=
                ((hbq.trans (hS9.2.2.2.2.2.2.2.mono hzr)).setCell (p := ⟨z, 0, none⟩) (Nat.le_refl _) _).setCell (p := ⟨z, 1, none⟩) (Nat.le_refl _) _
              have hzE : W2.heap.size ≤ ((w9.setCell ⟨z, 0, none⟩ (.int .i64 nx)).setCell ⟨z, 1, none⟩ (.int .i64 ny)).heap.size := by
                have h2 := hS9.2.2.2.2.2.2.2.size
                simp [World.setCell]
                omega
              generalize (w9.setCell ⟨z, 0, none⟩ (.int .i64 nx)).setCell ⟨z, 1, none⟩ (.int .i64 ny) = WE at hGE hbE hzE ⊢
              clear hS7 hS8 hS9 hG7 hG8 hG9 hSd HSd f0 f1 m0 m1 hb7 hb8 hb9
              go_wp2
              go_roundw
              case rel => exact ⟨i + 1, nx, ny, by omega, by go_num, HSs.out.symm, hbE, hzE, hGE⟩
              case measure => simp [intOf]; omega
            · obtain rfl : i = wave.length := by omega
              have hmd : Mid (x, y) := by
                have h := HFB.out wave.length (Nat.le_refl _)
                rw [← hxy] at h
                obtain ⟨h1, h2, h3, h4⟩ := h
                unfold Mid
                dsimp only at *
                omega
              obtain ⟨n, hn, n1, n2, n3, n4, n5, n6⟩ := HSk.out k hlt
              rw [← hxy] at hn
              dsimp only at hn
              have HGN := hide (fun W => gnorm_c (x, y) W hmd)
              dsimp only at HGN
              rw [← hn] at HGN
              have HLk := hide (HLV.out k hlt)
              have HLk2 := hide (HLW.out k hlt)
              have HAk := hide (HAN.out k hlt)
              clear hn hxy hmd hvq hgq hYq hY2 HFB HSk
              generalize lo k = a1 at HLk n1 n3
              generalize hi k = a2 at HLk n2 n4
              generalize lo2 k = a3 at HLk2 n3
              generalize hi2 k = a4 at HLk2 n4
              generalize an k = v at HAk n5 n6
              have HQ := hide (fun W => within_c n a1 a2 W)
              rw [outB_false.2 ⟨n1, n2⟩] at HQ
              have e1 : decide (a1 < a3) = false := by simp; omega
              have e2 : decide (a4 < a2) = false := by simp; omega
              have HN5 := hide n5
              have HN6 := hide n6
              have ht0 := sqv_bd (x := t) (m := 1000000000) (by omega) (by omega)
              have wt : IntKind.i64.wrap (t * t) = t * t := by simp (disch := omega) only [IntWalk.i64_in]
              have wb : IntKind.i64.wrap (b + 10) = b + 10 := by simp (disch := omega) only [IntWalk.i64_in]
              clear n1 n2 n3 n4 n5 n6
              go_upto_region 25 with (first | (go_at_call 82; refine (HGN.out _).mono ?_; rintro e w24 ⟨rfl, hb24⟩))
              have hB24 : Below w20.heap.size w20 w24 := bel_tr hbk2 hbk2.size hb24
              have hL24 := hLr.bel hB24
              have hR24 := hRr.bel hB24
              have hV24 := hVr.bel hB24
              have hM24 := hMr.bel hB24
              have lL := hL24.lt
              have lR := hR24.lt
              have l0 := hL24.cell 0; have l1 := hL24.cell 1; simp only [List.getElem?_cons_zero, List.getElem?_cons_succ] at l0 l1
              have r0 := hR24.cell 0; have r1 := hR24.cell 1; simp only [List.getElem?_cons_zero, List.getElem?_cons_succ] at r0 r1
              clear b0 b1 y0 y1
              go_cut [15, 16] from 150 to 264 (fun tp te wx => ∃ (X : Nat), tp = .pointer (some ⟨X, 0, none⟩) ∧ te = .int .i64 0 ∧ w24.heap.size ≤ X ∧ Blk wx X 107 [.int .i64 a1, .int .i64 a2] ∧ Below w24.heap.size w24 wx)
              case first =>
               as_aux_lemma =>
                go_region_held3 (fun w' => (∀ b o, b < w24.heap.size → w'.cell? ⟨b, o, none⟩ = w24.cell? ⟨b, o, none⟩) ∧ Below w24.heap.size w24 w')
                  (((refine kp ?_; ((repeat' (first | with_reducible exact Below.refl _ _ | with_reducible exact HB21.out | with_reducible exact HB22.out | with_reducible refine Below.drew ?_ | with_reducible refine bel_alloc ?_ ?_ _ | with_reducible refine Below.setCell ?_ ?_ _)); all_goals (first | omega | (simp <;> omega))))))
                  (first
                    | (go_at_call 68; refine (HCL.out V9 M9 _ (hV24.bel (by ((repeat' (first | with_reducible exact Below.refl _ _ | with_reducible exact HB21.out | with_reducible exact HB22.out | with_reducible refine Below.drew ?_ | with_reducible refine bel_alloc ?_ ?_ _ | with_reducible refine Below.setCell ?_ ?_ _)); all_goals (first | omega | (simp <;> omega))))) (hM24.bel (by ((repeat' (first | with_reducible exact Below.refl _ _ | with_reducible exact HB21.out | with_reducible exact HB22.out | with_reducible refine Below.drew ?_ | with_reducible refine bel_alloc ?_ ?_ _ | with_reducible refine Below.setCell ?_ ?_ _)); all_goals (first | omega | (simp <;> omega)))))).mono ?_; rintro e w21 ⟨⟨V21, e21, M21, f21, rfl, hV21, hM21⟩, hb21⟩; have HB21 : Hid (Below w24.heap.size w24 w21) := (by refine bel_tr ?_ ?_ hb21; ((repeat' (first | with_reducible exact Below.refl _ _ | with_reducible exact HB21.out | with_reducible exact HB22.out | with_reducible refine Below.drew ?_ | with_reducible refine bel_alloc ?_ ?_ _ | with_reducible refine Below.setCell ?_ ?_ _)); all_goals (first | omega | (simp <;> omega)))); have s21 := HB21.out.size)
                    | (go_at_call 71; refine (HLk.out V21 M21 e21 f21 _ (hV21.bel (by ((repeat' (first | with_reducible exact Below.refl _ _ | with_reducible refine Below.drew ?_ | with_reducible refine bel_alloc ?_ ?_ _)); all_goals (first | omega | (simp <;> omega))))).1 (hM21.bel (by ((repeat' (first | with_reducible exact Below.refl _ _ | with_reducible refine Below.drew ?_ | with_reducible refine bel_alloc ?_ ?_ _)); all_goals (first | omega | (simp <;> omega))))).1).mono ?_; rintro e w22 ⟨rfl, hb22⟩; have HB22 : Hid (Below w24.heap.size w24 w22) := (by refine bel_tr ?_ ?_ hb22; ((repeat' (first | with_reducible exact Below.refl _ _ | with_reducible exact HB21.out | with_reducible exact HB22.out | with_reducible refine Below.drew ?_ | with_reducible refine bel_alloc ?_ ?_ _ | with_reducible refine Below.setCell ?_ ?_ _)); all_goals (first | omega | (simp <;> omega)))); have s22 := HB22.out.size; (try (refine (have BA : Blk w22 (w24.heap.size) 107 [.int .i64 0, .int .i64 0] := ?_; ?_); (focus ((repeat' (first | with_reducible exact Blk.new _ _ [_, _] | with_reducible refine Blk.dr ?_ | with_reducible refine Blk.bel ?_ (alloc_bel _ _) | with_reducible refine Blk.bel ?_ hb22 | with_reducible refine Blk.bel ?_ hb21)); done)); have cba0 := BA.cell 0; have cba1 := BA.cell 1; simp only [List.getElem?_cons_zero, List.getElem?_cons_succ] at cba0 cba1; have dba0 := BA.frozen 0; have dba1 := BA.frozen 1; clear BA)); (try (refine (have BB : Blk w22 (w21.heap.size) 107 [.int .i64 0, .int .i64 0] := ?_; ?_); (focus ((repeat' (first | with_reducible exact Blk.new _ _ [_, _] | with_reducible refine Blk.dr ?_ | with_reducible refine Blk.bel ?_ (alloc_bel _ _) | with_reducible refine Blk.bel ?_ hb22 | with_reducible refine Blk.bel ?_ hb21)); done)); have cbb0 := BB.cell 0; have cbb1 := BB.cell 1; simp only [List.getElem?_cons_zero, List.getElem?_cons_succ] at cbb0 cbb1; have dbb0 := BB.frozen 0; have dbb1 := BB.frozen 1; clear BB))))
                all_goals
                  go_wp2
                  go_meet
                  refine ⟨_, rfl, rfl, by first | omega | (simp <;> omega), ?_, ?_⟩
                  · (repeat' (first | with_reducible exact Blk.new _ _ [_, _] | with_reducible refine Blk.set2 (a := .int .i64 0) (b := .int .i64 0) ?_ _ _ | with_reducible refine Blk.dr ?_ | with_reducible refine Blk.bel ?_ (alloc_bel _ _) | with_reducible refine Blk.bel ?_ hb22 | with_reducible refine Blk.bel ?_ hb21))
                  · ((repeat' (first | with_reducible exact Below.refl _ _ | with_reducible exact HB21.out | with_reducible exact HB22.out | with_reducible refine Below.drew ?_ | with_reducible refine bel_alloc ?_ ?_ _ | with_reducible refine Below.setCell ?_ ?_ _)); all_goals (first | omega | (simp <;> omega)))
              obtain ⟨X25, rfl, rfl, hX25, hG25, hb25⟩ := hcut
              obtain ⟨w25, hw25⟩ : ∃ w25 : World, wc = w25 := ⟨_, rfl⟩
              rw [hw25] at hG25 hb25 ⊢
              clear hw25
              have hL25 := hL24.bel hb25
              have hR25 := hR24.bel hb25
              have hV25 := hV24.bel hb25
              have hM25 := hM24.bel hb25
              clear lL lR l0 l1 r0 r1 HGN
              have lL := hL25.lt
              have lR := hR25.lt
              have l0 := hL25.cell 0; have l1 := hL25.cell 1; simp only [List.getElem?_cons_zero, List.getElem?_cons_succ] at l0 l1
              have r0 := hR25.cell 0; have r1 := hR25.cell 1; simp only [List.getElem?_cons_zero, List.getElem?_cons_succ] at r0 r1
              go_upto_region 26 with fail
              go_cut [17, 18] from 150 to 264 (fun tp te wx => ∃ (X : Nat), tp = .pointer (some ⟨X, 0, none⟩) ∧ te = .int .i64 0 ∧ w25.heap.size ≤ X ∧ Blk wx X 107 [.int .i64 a3, .int .i64 a4] ∧ Below w25.heap.size w25 wx)
              case first =>
               as_aux_lemma =>
                go_region_held3 (fun w' => (∀ b o, b < w25.heap.size → w'.cell? ⟨b, o, none⟩ = w25.cell? ⟨b, o, none⟩) ∧ Below w25.heap.size w25 w')
                  (((refine kp ?_; ((repeat' (first | with_reducible exact Below.refl _ _ | with_reducible exact HB21.out | with_reducible exact HB22.out | with_reducible refine Below.drew ?_ | with_reducible refine bel_alloc ?_ ?_ _ | with_reducible refine Below.setCell ?_ ?_ _)); all_goals (first | omega | (simp <;> omega))))))
                  (first
                    | (go_at_call 68; refine (HCL.out V9 M9 _ (hV25.bel (by ((repeat' (first | with_reducible exact Below.refl _ _ | with_reducible exact HB21.out | with_reducible exact HB22.out | with_reducible refine Below.drew ?_ | with_reducible refine bel_alloc ?_ ?_ _ | with_reducible refine Below.setCell ?_ ?_ _)); all_goals (first | omega | (simp <;> omega))))) (hM25.bel (by ((repeat' (first | with_reducible exact Below.refl _ _ | with_reducible exact HB21.out | with_reducible exact HB22.out | with_reducible refine Below.drew ?_ | with_reducible refine bel_alloc ?_ ?_ _ | with_reducible refine Below.setCell ?_ ?_ _)); all_goals (first | omega | (simp <;> omega)))))).mono ?_; rintro e w21 ⟨⟨V21, e21, M21, f21, rfl, hV21, hM21⟩, hb21⟩; have HB21 : Hid (Below w25.heap.size w25 w21) := (by refine bel_tr ?_ ?_ hb21; ((repeat' (first | with_reducible exact Below.refl _ _ | with_reducible exact HB21.out | with_reducible exact HB22.out | with_reducible refine Below.drew ?_ | with_reducible refine bel_alloc ?_ ?_ _ | with_reducible refine Below.setCell ?_ ?_ _)); all_goals (first | omega | (simp <;> omega)))); have s21 := HB21.out.size)
                    | (go_at_call 71; refine (HLk2.out V21 M21 e21 f21 _ (hV21.bel (by ((repeat' (first | with_reducible exact Below.refl _ _ | with_reducible refine Below.drew ?_ | with_reducible refine bel_alloc ?_ ?_ _)); all_goals (first | omega | (simp <;> omega))))).1 (hM21.bel (by ((repeat' (first | with_reducible exact Below.refl _ _ | with_reducible refine Below.drew ?_ | with_reducible refine bel_alloc ?_ ?_ _)); all_goals (first | omega | (simp <;> omega))))).1).mono ?_; rintro e w22 ⟨rfl, hb22⟩; have HB22 : Hid (Below w25.heap.size w25 w22) := (by refine bel_tr ?_ ?_ hb22; ((repeat' (first | with_reducible exact Below.refl _ _ | with_reducible exact HB21.out | with_reducible exact HB22.out | with_reducible refine Below.drew ?_ | with_reducible refine bel_alloc ?_ ?_ _ | with_reducible refine Below.setCell ?_ ?_ _)); all_goals (first | omega | (simp <;> omega)))); have s22 := HB22.out.size; (try (refine (have BA : Blk w22 (w25.heap.size) 107 [.int .i64 0, .int .i64 0] := ?_; ?_); (focus ((repeat' (first | with_reducible exact Blk.new _ _ [_, _] | with_reducible refine Blk.dr ?_ | with_reducible refine Blk.bel ?_ (alloc_bel _ _) | with_reducible refine Blk.bel ?_ hb22 | with_reducible refine Blk.bel ?_ hb21)); done)); have cba0 := BA.cell 0; have cba1 := BA.cell 1; simp only [List.getElem?_cons_zero, List.getElem?_cons_succ] at cba0 cba1; have dba0 := BA.frozen 0; have dba1 := BA.frozen 1; clear BA)); (try (refine (have BB : Blk w22 (w21.heap.size) 107 [.int .i64 0, .int .i64 0] := ?_; ?_); (focus ((repeat' (first | with_reducible exact Blk.new _ _ [_, _] | with_reducible refine Blk.dr ?_ | with_reducible refine Blk.bel ?_ (alloc_bel _ _) | with_reducible refine Blk.bel ?_ hb22 | with_reducible refine Blk.bel ?_ hb21)); done)); have cbb0 := BB.cell 0; have cbb1 := BB.cell 1; simp only [List.getElem?_cons_zero, List.getElem?_cons_succ] at cbb0 cbb1; have dbb0 := BB.frozen 0; have dbb1 := BB.frozen 1; clear BB))))
                all_goals
                  go_wp2
                  go_meet
                  refine ⟨_, rfl, rfl, by first | omega | (simp <;> omega), ?_, ?_⟩
                  · (repeat' (first | with_reducible exact Blk.new _ _ [_, _] | with_reducible refine Blk.set2 (a := .int .i64 0) (b := .int .i64 0) ?_ _ _ | with_reducible refine Blk.dr ?_ | with_reducible refine Blk.bel ?_ (alloc_bel _ _) | with_reducible refine Blk.bel ?_ hb22 | with_reducible refine Blk.bel ?_ hb21))
                  · ((repeat' (first | with_reducible exact Below.refl _ _ | with_reducible exact HB21.out | with_reducible exact HB22.out | with_reducible refine Below.drew ?_ | with_reducible refine bel_alloc ?_ ?_ _ | with_reducible refine Below.setCell ?_ ?_ _)); all_goals (first | omega | (simp <;> omega)))
              obtain ⟨X26, rfl, rfl, hX26, hG26, hb26⟩ := hcut
              obtain ⟨w26, hw26⟩ : ∃ w26 : World, wc = w26 := ⟨_, rfl⟩
              rw [hw26] at hG26 hb26 ⊢
              clear hw26
              have hL26 := hL25.bel hb26
              have hR26 := hR25.bel hb26
              have hV26 := hV25.bel hb26
              have hM26 := hM25.bel hb26
              have hG25b := hG25.bel hb26
              have hB26 : Below w20.heap.size w20 w26 := bel_tr (bel_tr hB24 hB24.size hb25) (by have := hB24.size; have := hb25.size; omega) hb26
              clear lL lR l0 l1 r0 r1
              have lL := hL26.lt
              have lR := hR26.lt
              have l0 := hL26.cell 0; have l1 := hL26.cell 1; simp only [List.getElem?_cons_zero, List.getElem?_cons_succ] at l0 l1
              have r0 := hR26.cell 0; have r1 := hR26.cell 1; simp only [List.getElem?_cons_zero, List.getElem?_cons_succ] at r0 r1
              go_upto_region 27 with fail
              go_region_held3 (fun w' => (∀ b o, b < w26.heap.size → w'.cell? ⟨b, o, none⟩ = w26.cell? ⟨b, o, none⟩) ∧ Below w26.heap.size w26 w')
                (first | with_reducible exact kp_refl w26 | with_reducible exact kp HB27.out | with_reducible exact kp HB28.out)
                (first
                  | (go_at_call 68; refine (HCL.out V9 M9 _ (hV26.drewN 1) (hM26.drewN 1)).mono ?_; rintro e w27 ⟨⟨V27, e27, M27, f27, rfl, hV27, hM27⟩, hb27⟩; have HB27 := hide (bel_tr ((Below.refl w26.heap.size w26).drew) (Nat.le_refl _) hb27))
                  | (go_at_call 72; refine (HAk.out V27 M27 e27 f27 _ hV27.1 hM27.1).mono ?_; rintro e w28 ⟨rfl, hb28⟩; have HB28 := hide (bel_tr HB27.out HB27.out.size hb28)))
              have hB28 := HB28.out
              have hR28 := hR26.bel hB28
              have hG28 := hG25b.bel hB28
              have hH28 := hG26.bel hB28
              have hBE := bel_tr hB26 hB26.size hB28
              clear HB27 HB28 l0 l1 r0 r1 lL lR
              have r0 := hR28.cell 0; have r1 := hR28.cell 1; simp only [List.getElem?_cons_zero, List.getElem?_cons_succ] at r0 r1
              have m0 := hG28.cell 0; have m1 := hG28.cell 1; simp only [List.getElem?_cons_zero, List.getElem?_cons_succ] at m0 m1
              have n0 := hH28.cell 0; have n1 := hH28.cell 1; simp only [List.getElem?_cons_zero, List.getElem?_cons_succ] at n0 n1
              go_upto_region 29 with fail
              by_cases hv2 : v = 2
              · subst hv2
                have d5 : decide (n < t * t) = false := by have := HN5.out rfl; simp; omega
                as_aux_lemma =>
                go_wp2_with (first | (go_at_call 26; refine (HQ.out _).mono ?_; rintro e_ w_ ⟨rfl, rfl⟩))
                go_roundw
                case rel => exact ⟨k + 1, by omega, by go_num, hBE⟩
                case measure => simp [intOf]; omega
              · by_cases hv0 : v = 0
                · subst hv0
                  have d5 : decide (t * t ≤ n) = false := by have := HN6.out rfl; simp; omega
                  as_aux_lemma =>
                  go_wp2_with (first | (go_at_call 26; refine (HQ.out _).mono ?_; rintro e_ w_ ⟨rfl, rfl⟩))
                  go_roundw
                  case rel => exact ⟨k + 1, by omega, by go_num, hBE⟩
                  case measure => simp [intOf]; omega
                · have q1 : (v == 2) = false := by simpa using hv2
                  have q2 : (v == 0) = false := by simpa using hv0
                  as_aux_lemma =>
                  go_wp2_with (first | (go_at_call 26; refine (HQ.out _).mono ?_; rintro e_ w_ ⟨rfl, rfl⟩))
                  go_roundw
                  case rel => exact ⟨k + 1, by omega, by go_num, hBE⟩
                  case measure => simp [intOf]; omega
        · obtain rfl : k = N := by omega
          go_wp2
          go_ret
          exact ⟨rfl, bel_tr hwW hwW.size (bel_tr hWr hWr.size hbk)⟩

end Go.Proofs.YthkmeaibppkhmaaDoor
