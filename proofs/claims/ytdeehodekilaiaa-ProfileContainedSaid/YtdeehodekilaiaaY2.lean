/- Contracts: how a profile agrees with a trace. -/
import Derived.Test.YtdeehodekilaiaaF9
import Derived.Test.YtdeehodekilaiaaU1
import Derived.Test.YtdeehodekilaiaaY1
set_option linter.unusedSimpArgs false
set_option linter.unusedVariables false
namespace Go.Proofs.Ytdeehodekilaiaa
open Go.RowKit
set_option maxRecDepth 100000

theorem ints_set {l : List Int} {k : Nat} (n : Int) : (ints l).set k (.int .i64 n) = ints (l.set k n) := by simp [ints]
theorem madeCells_i (n : Nat) : (madeCells (Value.int .i64 0).cells (n * 1)).toList = ints (List.replicate n 0) := by rw [madeCells_one _ rfl]; simp [ints]
theorem cell_set1 {W : World} {g q i j : Nat} {u x : Value} (h : W.cell? ⟨q, i, none⟩ = some x) (hne : q ≠ g) : (W.setCell ⟨g, j, none⟩ u).cell? ⟨q, i, none⟩ = some x := by
  unfold World.cell? at h ⊢
  rw [Below.heap_setCell W ⟨g, j, none⟩ u q (by show q ≠ g; exact hne)]
  exact h
/-- The first k answers, and the others as they were made. -/
def ansL (base : Int) (l : List G) (pts : List PT) (k : Nat) : List Int := (List.range pts.length).map fun j => if j < k then agr base l (pts.getD j P0) else 0
@[simp] theorem ansL_length (base : Int) (l : List G) (pts : List PT) (k : Nat) : (ansL base l pts k).length = pts.length := by simp [ansL]
theorem ansL_at (base : Int) (l : List G) (pts : List PT) (k i : Nat) (h : i < (ansL base l pts k).length) : (ansL base l pts k)[i] = if i < k then agr base l (pts.getD i P0) else 0 := by simp [ansL]
theorem ansL_zero (base : Int) (l : List G) (pts : List PT) : ansL base l pts 0 = List.replicate pts.length 0 := by
  refine List.ext_getElem (by simp) fun i h1 h2 => ?_
  rw [ansL_at]
  simp
theorem ansL_set (base : Int) (l : List G) (pts : List PT) (k : Nat) (p : PT) (hk : pts.getD k P0 = p) : (ansL base l pts k).set k (agr base l p) = ansL base l pts (k + 1) := by
  refine List.ext_getElem (by simp) fun i h1 h2 => ?_
  rw [List.getElem_set, ansL_at]
  by_cases h : k = i
  · subst h
    rw [if_pos rfl, ansL_at, if_pos (by omega), hk]
  · rw [if_neg h, ansL_at]
    by_cases h3 : i < k
    · rw [if_pos h3, if_pos (by omega)]
    · rw [if_neg h3, if_neg (by omega)]
theorem ansL_all (base : Int) (l : List G) (pts : List PT) : ansL base l pts pts.length = pts.map (agr base l) := by
  refine List.ext_getElem (by simp) fun i h1 h2 => ?_
  have : i < pts.length := by simpa using h1
  rw [ansL_at, if_pos this, getD_at this, List.getElem_map]

set_option maxHeartbeats 2000000 in
theorem agreesWith_bad (base after width : Int) (A B : Option Addr) (c d : Nat) (l : List G) (pts : List PT) (w : World) (hr : Rd w A (gs l)) (hs : Rd w B (ps pts)) (hl : l.length ≤ 1000) (hpl : pts.length ≤ 1000) (he : firstE [(proE base l).2, (trE pts after width).2] ≠ 0) :
    Calls Try.prog 24 #[.agg #[.int .i64 base, .slice A l.length c], .agg #[.slice B pts.length d, .int .i64 after, .int .i64 width]] w fun r w' => r = .returned (.tuple #[.slice none 0 0, .int .i64 (firstE [(proE base l).2, (trE pts after width).2])]) ∧ Below w.heap.size w w' := by
  obtain ⟨E, hE⟩ : ∃ E, firstE [(proE base l).2, (trE pts after width).2] = E := ⟨_, rfl⟩
  rw [hE] at he ⊢
  have e1 : (E != 0) = true := by simpa using he
  clear he
  have HC := hide (fun W h => checked_c B d after width pts W h hpl)
  have HE := hide (fun W h => profileError_c base A c l W h hl)
  have HH : Hid (firstE [(proE base l).2, (trE pts after width).2] = E) := hE
  generalize (trE pts after width).2 = te at HC HH
  generalize (proE base l).2 = pe at HE HH
  obtain ⟨W0, hW0⟩ : ∃ W0, (w.alloc (.cells #[.int .i64 base, .slice A l.length c] 24)).alloc (.cells #[.slice B pts.length d, .int .i64 after, .int .i64 width] 30) = W0 := ⟨_, rfl⟩
  obtain ⟨p, hp⟩ : ∃ p, w.heap.size = p := ⟨_, rfl⟩
  have hX0 : Blk W0 p 24 [.int .i64 base, .slice A l.length c] := by rw [← hW0, ← hp]; exact (two_new w _ _ [_, _] [_, _, _]).1
  have hT0 : Blk W0 (p + 1) 30 [.slice B pts.length d, .int .i64 after, .int .i64 width] := by rw [← hW0, ← hp]; exact (two_new w _ _ [_, _] [_, _, _]).2.1
  have hB0 : Below p w W0 := by rw [← hW0, ← hp]; exact (two_new w _ _ [_, _] [_, _, _]).2.2
  have hr0 := hr.bel (by rw [hp]; exact hB0)
  have hs0 := hs.bel (by rw [hp]; exact hB0)
  have HW := hide hW0
  clear hW0 hr hs
  have d0 := hT0.cell 0; have d1 := hT0.cell 1; have d2 := hT0.cell 2; simp only [List.getElem?_cons_zero, List.getElem?_cons_succ] at d0 d1 d2
  have z0 := hT0.lt
  go_enter Try.func24, Try.ntmps24
  go_upto_region 1 with fail
  rw [HW.out]
  have e3 : (firstE [pe, te] != 0) = true := by rw [HH.out]; exact e1
  by_cases ht : te = 0
  · have HV : Hid (chkV B pts.length d after width te = .tuple #[.agg #[.slice B pts.length d, .int .i64 after, .int .i64 width], .int .i64 te]) := by show _ = _; unfold chkV; rw [if_pos ht]
    rw [HV.out] at HC
    clear HV ht
    go_upto_region 2 with (first | (go_at_call 47; refine (HC.out _ hs0).mono ?_; rintro e w1 ⟨rfl, hb1⟩))
    obtain ⟨W2, hW2⟩ : ∃ W, w1.alloc (.cells #[.slice B pts.length d, .int .i64 after, .int .i64 width] 98) = W := ⟨_, rfl⟩
    have hb2 : Below W0.heap.size W0 W2 := by rw [← hW2]; exact bel_alloc hb1 hb1.size _
    have hX2 := hX0.bel hb2
    have hr2 := hr0.bel hb2
    have hB2 := bel_tr hB0 (by omega) hb2
    have hs2 := hb2.size
    rw [hW2]
    clear hW2 d0 d1 d2
    have c0 := hX2.cell 0; have c1 := hX2.cell 1; simp only [List.getElem?_cons_zero, List.getElem?_cons_succ] at c0 c1
    have z1 := hX2.lt
    go_wp2_with (first
      | (go_at_call 34; refine (HE.out _ hr2).mono ?_; rintro e w3 ⟨rfl, hb3⟩)
      | (go_at_call 33; refine (firstError_2 _ _ _).mono ?_; rintro e_ w_ ⟨rfl, rfl⟩))
    rw [HH.out]
    go_ret2
    exact ⟨rfl, by rw [hp]; exact bel_tr hB2 (by omega) (bel_alloc hb3 hb3.size _)⟩
  · have HV : Hid (chkV B pts.length d after width te = .tuple #[.agg #[.slice none 0 0, .int .i64 0, .int .i64 0], .int .i64 te]) := by show _ = _; unfold chkV; rw [if_neg ht]
    rw [HV.out] at HC
    clear HV ht
    go_upto_region 2 with (first | (go_at_call 47; refine (HC.out _ hs0).mono ?_; rintro e w1 ⟨rfl, hb1⟩))
    obtain ⟨W2, hW2⟩ : ∃ W, w1.alloc (.cells #[.slice none 0 0, .int .i64 0, .int .i64 0] 98) = W := ⟨_, rfl⟩
    have hb2 : Below W0.heap.size W0 W2 := by rw [← hW2]; exact bel_alloc hb1 hb1.size _
    have hX2 := hX0.bel hb2
    have hr2 := hr0.bel hb2
    have hB2 := bel_tr hB0 (by omega) hb2
    have hs2 := hb2.size
    rw [hW2]
    clear hW2 d0 d1 d2
    have c0 := hX2.cell 0; have c1 := hX2.cell 1; simp only [List.getElem?_cons_zero, List.getElem?_cons_succ] at c0 c1
    have z1 := hX2.lt
    go_wp2_with (first
      | (go_at_call 34; refine (HE.out _ hr2).mono ?_; rintro e w3 ⟨rfl, hb3⟩)
      | (go_at_call 33; refine (firstError_2 _ _ _).mono ?_; rintro e_ w_ ⟨rfl, rfl⟩))
    rw [HH.out]
    go_ret2
    exact ⟨rfl, by rw [hp]; exact bel_tr hB2 (by omega) (bel_alloc hb3 hb3.size _)⟩

set_option maxHeartbeats 4000000 in
theorem agreesWith_ok (base after width : Int) (A B : Option Addr) (c d : Nat) (l : List G) (pts : List PT) (w : World) (hr : Rd w A (gs l)) (hs : Rd w B (ps pts)) (hP : Pro base l) (hT : Tr pts after width) :
    Calls Try.prog 24 #[.agg #[.int .i64 base, .slice A l.length c], .agg #[.slice B pts.length d, .int .i64 after, .int .i64 width]] w fun r w' => (∃ A' c', r = .returned (.tuple #[.slice A' pts.length c', .int .i64 0]) ∧ Rd w' A' (ints (pts.map (agr base l)))) ∧ Below w.heap.size w w' := by
  obtain ⟨i0, hi, iz0, iz1, iz2⟩ := info_parts Try.infoN
  have hl : l.length ≤ 1000 := by have := hP.n1; omega
  have hpl : pts.length ≤ 1000 := by have := hT.n1; omega
  have hn0 := hT.n0
  have hm1 : ∀ W, (Instr.makeSlice 25 (.int .i64 (pts.length : Int)) (.int .i64 (pts.length : Int))).run Try.prog W = .ok (.slice (some ⟨W.heap.size, 0, none⟩) pts.length pts.length) (W.alloc (.cells (ints (List.replicate pts.length 0)).toArray 3)) := fun W => by
    have h1 := run_make_rowN (P := Try.prog) 25 3 i0 _ Try.underlying25 hi iz0 .i64 .i64 pts.length pts.length (Nat.le_refl _) (by rw [iz2]; omega) (by omega) W
    have h2 := madeCells_i pts.length
    rw [iz1] at h1
    rw [h1]
    congr 3
    rw [← h2]
  have hpe : (proE base l).2 = 0 := by rw [hP.err]
  have hte : (trE pts after width).2 = 0 := by rw [hT.err]
  have HAG := hide (fun f lo hi W h => agreement_c base f lo hi A c l W h hl)
  have HC := hide (fun W h => checked_c B d after width pts W h hpl)
  have HE := hide (fun W h => profileError_c base A c l W h hl)
  have HH : Hid (firstE [(proE base l).2, (trE pts after width).2] = 0) := (by rw [hpe, hte]; rfl)
  generalize (trE pts after width).2 = te at HC HH
  generalize (proE base l).2 = pe at HE HH
  obtain ⟨W0, hW0⟩ : ∃ W0, (w.alloc (.cells #[.int .i64 base, .slice A l.length c] 24)).alloc (.cells #[.slice B pts.length d, .int .i64 after, .int .i64 width] 30) = W0 := ⟨_, rfl⟩
  obtain ⟨p, hp⟩ : ∃ p, w.heap.size = p := ⟨_, rfl⟩
  have hX0 : Blk W0 p 24 [.int .i64 base, .slice A l.length c] := by rw [← hW0, ← hp]; exact (two_new w _ _ [_, _] [_, _, _]).1
  have hT0 : Blk W0 (p + 1) 30 [.slice B pts.length d, .int .i64 after, .int .i64 width] := by rw [← hW0, ← hp]; exact (two_new w _ _ [_, _] [_, _, _]).2.1
  have hB0 : Below p w W0 := by rw [← hW0, ← hp]; exact (two_new w _ _ [_, _] [_, _, _]).2.2
  have hr0 := hr.bel (by rw [hp]; exact hB0)
  have hs0 := hs.bel (by rw [hp]; exact hB0)
  have HW := hide hW0
  clear hW0 hr hs
  have d0 := hT0.cell 0; have d1 := hT0.cell 1; have d2 := hT0.cell 2; simp only [List.getElem?_cons_zero, List.getElem?_cons_succ] at d0 d1 d2
  have z0 := hT0.lt
  go_enter Try.func24, Try.ntmps24
  go_upto_region 1 with fail
  rw [HW.out]
  have hV : chkV B pts.length d after width 0 = .tuple #[.agg #[.slice B pts.length d, .int .i64 after, .int .i64 width], .int .i64 0] := by unfold chkV; rw [if_pos rfl]
  obtain ⟨rfl, hh⟩ := firstE_cons_zero.1 HH.out
  obtain ⟨rfl, _⟩ := firstE_cons_zero.1 hh
  have e3 : (firstE [0, 0] != 0) = false := rfl
  clear HH hh hpe hte
  rw [hV] at HC
  clear hV
  go_upto_region 2 with (first | (go_at_call 47; refine (HC.out _ hs0).mono ?_; rintro e w1 ⟨rfl, hb1⟩))
  obtain ⟨s, hss⟩ : ∃ s, w1.heap.size = s := ⟨_, rfl⟩
  obtain ⟨W2, hW2⟩ : ∃ W, w1.alloc (.cells #[.slice B pts.length d, .int .i64 after, .int .i64 width] 98) = W := ⟨_, rfl⟩
  have hb2 : Below W0.heap.size W0 W2 := by rw [← hW2]; exact bel_alloc hb1 hb1.size _
  have hC2 : Blk W2 s 98 [.slice B pts.length d, .int .i64 after, .int .i64 width] := by rw [← hW2, ← hss]; exact Blk.new w1 _ [_, _, _]
  have hX2 := hX0.bel hb2
  have hr2 := hr0.bel hb2
  have hs2 := hs0.bel hb2
  have hB2 := bel_tr hB0 (by omega) hb2
  have hz2 := hb2.size
  have hps : p < s := by have := hb1.size; omega
  rw [hW2, hss]
  clear hW2 d0 d1 d2 hX0 hr0 hs0 hb2 hss hb1
  have c0 := hX2.cell 0; have c1 := hX2.cell 1; simp only [List.getElem?_cons_zero, List.getElem?_cons_succ] at c0 c1
  have z1 := hX2.lt
  go_upto_region 3 with (first
    | (go_at_call 34; refine (HE.out _ hr2).mono ?_; rintro e w3 ⟨rfl, hb3⟩)
    | (go_at_call 33; refine (firstError_2 _ _ _).mono ?_; rintro e_ w_ ⟨rfl, rfl⟩))
  obtain ⟨W4, hW4⟩ : ∃ W, w3.alloc (.cells #[.int .i64 0, .int .i64 0] 31) = W := ⟨_, rfl⟩
  have hb4 : Below W2.heap.size W2 W4 := by rw [← hW4]; exact bel_alloc hb3 hb3.size _
  have hX4 := hX2.bel hb4
  have hC4 := hC2.bel hb4
  have hr4 := hr2.bel hb4
  have hs4 := hs2.bel hb4
  have hB4 := bel_tr hB2 (by omega) hb4
  have hz4 := hb4.size
  rw [hW4]
  clear hW4 c0 c1 z1 hX2 hC2 hr2 hs2 hB2 hb3 hb4
  have m0 := hC4.cell 0
  simp only [List.getElem?_cons_zero] at m0
  have zm := hC4.lt
  go_upto_region 6 with fail
  obtain ⟨Q, hQ⟩ : ∃ Q, W4.heap.size = Q := ⟨_, rfl⟩
  obtain ⟨W5, hW5⟩ : ∃ W, W4.alloc (.cells (ints (List.replicate pts.length 0)).toArray 3) = W := ⟨_, rfl⟩
  have hb5 : Below Q W4 W5 := by rw [← hW5, ← hQ]; exact alloc_bel _ _
  have hQ5 : Blk W5 Q 3 (ints (List.replicate pts.length 0)) := by rw [← hW5, ← hQ]; exact Blk.new W4 _ _
  have hX5 := hX4.below hb5 (by omega)
  have hC5 := hC4.below hb5 (by omega)
  have hr5 := hr4.below hb5 (by omega)
  have hs5 := hs4.below hb5 (by omega)
  have hB5 := hB4.trans (hb5.mono (by omega))
  have hrA := hr4.low
  have hsB := hs4.low
  have hsQ : s < Q := by omega
  rw [hW5, hQ]
  clear hW5 m0 zm hX4 hC4 hr4 hs4 hB4 hb5
  have m0 := hC5.cell 0
  simp only [List.getElem?_cons_zero] at m0
  have zm := hC5.lt
  go_wp2
  clear m0 zm
  go_loopw [32] (fun i wr => ∃ k : Nat, k ≤ pts.length ∧ i = .int .i64 k ∧ Below Q W5 wr ∧ Blk wr Q 3 (ints (ansL base l pts k))) (fun i _ => pts.length - (intOf i).toNat)
  case atStart => exact ⟨0, Nat.zero_le _, rfl, Below.refl _ _, by rw [ansL_zero]; exact hQ5⟩
  case round =>
    obtain ⟨k, hk, rfl, hbr, hQr⟩ := hrel
    have hXr := hX5.below hbr (by omega)
    have hCr := hC5.below hbr (by omega)
    have hBr := hB5.trans (hbr.mono (by omega))
    have hrr : Rd wr A (gs l) := hr5.keepS (S := fun j => j < Q) (fun hx b off e => by have := hrA hx b off e; omega) (Keep.of_below hbr fun k hk => hk)
    have hsr : Rd wr B (ps pts) := hs5.keepS (S := fun j => j < Q) (fun hx b off e => by have := hsB hx b off e; omega) (Keep.of_below hbr fun k hk => hk)
    by_cases hlt : k < pts.length
    · obtain ⟨b, off, rfl, hblt, hc0, hc1, hc2⟩ := hsr.p_at hlt
      have hAS := hide (ansL_set base l pts k _ (getD_at hlt P0))
      generalize pts[k] = pt at hc0 hc1 hc2 hAS
      obtain ⟨f, lo, hi'⟩ := pt
      dsimp only at hc0 hc1 hc2
      have c0 := hXr.cell 0; have c1 := hXr.cell 1; simp only [List.getElem?_cons_zero, List.getElem?_cons_succ] at c0 c1
      have m0 := hCr.cell 0
      simp only [List.getElem?_cons_zero] at m0
      have zx := hXr.lt
      have zm := hCr.lt
      have zq := hQr.lt
      have hkI : (k : Int) < (pts.length : Int) := by omega
      have q0 : wr.cell? ⟨Q, k, none⟩ = some (.int .i64 ((ansL base l pts k).getD k 0)) := by rw [hQr.cell, ints_at (by simpa using hlt), getD_at (by simpa using hlt)]
      have q1 := hQr.frozen k
      go_upto_region 9 with fail
      have hbQ : b < Q := by
        have := hsB (by intro h; have h2 := congrArg List.length h; rw [ps_length, List.length_nil] at h2; omega) b off rfl
        omega
      go_region_held3 (fun w' => w'.cell? ⟨p, 0, none⟩ = some (.int .i64 base) ∧ w'.cell? ⟨p, 1, none⟩ = some (.slice A l.length c) ∧ w'.cell? ⟨s, 0, none⟩ = some (.slice (some ⟨b, off, none⟩) pts.length d) ∧ w'.cell? ⟨b, off + k * 3, none⟩ = some (.int .i64 f) ∧ w'.cell? ⟨b, off + k * 3 + 1, none⟩ = some (.int .i64 lo) ∧ w'.cell? ⟨b, off + k * 3 + 2, none⟩ = some (.int .i64 hi'))
        (first | exact ⟨c0, c1, m0, hc0, hc1, hc2⟩ | exact ⟨x0, x1, x2, x3, x4, x5⟩ | exact ⟨cell_set1 x0 (by omega), cell_set1 x1 (by omega), cell_set1 x2 (by omega), cell_set1 x3 (by omega), cell_set1 x4 (by omega), cell_set1 x5 (by omega)⟩)
        (first
          | (go_at_call 52; refine (HAG.out _ _ _ _ (by exact hrr)).mono ?_; rintro e w7 ⟨rfl, hb7⟩; have HB1 : Hid (Below wr.heap.size wr w7) := hide (Below.trans (Below.refl _ _).drew hb7); have s1 := HB1.out.size; have q2 := (HB1.out.cell (p := ⟨Q, k, none⟩) zq).trans q0; have q3 := (hQr.bel HB1.out).frozen k; have q4 := (hQr.bel HB1.out).lt; have x0 := (HB1.out.cell (p := ⟨p, 0, none⟩) zx).trans c0; have x1 := (HB1.out.cell (p := ⟨p, 1, none⟩) zx).trans c1; have x2 := (HB1.out.cell (p := ⟨s, 0, none⟩) zm).trans m0; have x3 := (HB1.out.cell (p := ⟨b, off + k * 3, none⟩) hblt).trans hc0; have x4 := (HB1.out.cell (p := ⟨b, off + k * 3 + 1, none⟩) hblt).trans hc1; have x5 := (HB1.out.cell (p := ⟨b, off + k * 3 + 2, none⟩) hblt).trans hc2))
      go_wp2
      go_roundw
      case rel => exact ⟨k + 1, by omega, by go_num, (hbr.trans (HB1.out.mono (by omega))).setCell (Nat.le_refl _) _, by rw [← hAS.out, ← ints_set]; exact (hQr.bel HB1.out).set_ k _⟩
      case measure => simp [intOf]; omega
    · obtain rfl : k = pts.length := by omega
      rw [ansL_all] at hQr
      go_wp2
      go_ret2
      exact ⟨⟨some ⟨Q, 0, none⟩, pts.length, rfl, hQr.rd (List.prefix_refl _)⟩, by rw [hp]; exact hBr⟩
end Go.Proofs.Ytdeehodekilaiaa
