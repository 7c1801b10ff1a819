/- The legs of a ray, one by one: an iterator that is a method. -/
import Derived.Test.YtkcjiejdjdcbeaaRy9
import Derived.Test.YtkcjiejdjdcbeaaIter8
import Derived.Sort.CutIn
set_option linter.unusedSimpArgs false
set_option linter.unusedVariables false
set_option linter.unusedSimpArgs false
set_option linter.unusedVariables false
namespace Go.Proofs.Ytkcjiejdjdcbeaa
open Go.RowKit
set_option maxRecDepth 100000
attribute [local go_sem] Oper.semAt_some



/-- All legs of a ray. -/
def legsL (H f n d : Int) (l : List G) : List G := legQ f n d H 0 :: (l.take (pasN f n d l)).map fun g => legQ f n d g.1 g.2
theorem legsL_len (H f n d : Int) (l : List G) : (legsL H f n d l).length = pasN f n d l + 1 := by
  have := pasN_le f n d l
  simp [legsL]; omega
theorem legsL_at (H f n d : Int) (l : List G) {k : Nat} (hk : k < pasN f n d l) (h1 : k + 1 < (legsL H f n d l).length) (h2 : k < l.length) : (legsL H f n d l)[k + 1] = legQ f n d l[k].1 l[k].2 := by
  simp [legsL]
theorem pas_not {f n d : Int} {l : List G} {k : Nat} (hk : k < pasN f n d l) (h2 : k < l.length) : hitB f n d l[k] = false := by
  have := List.not_of_lt_findIdx hk
  simpa using this
theorem hit_free {f n d : Int} (h1 : 1 ≤ f) (h2 : f ≤ 3000) (hnd : n < d) (t : Int) : hitB f n d (t, 0) = false := by
  have hff := Int.mul_le_mul_of_nonneg_left h1 (show 0 ≤ f by omega)
  have e : idxQ 0 f = (1, 1) := by
    unfold idxQ redQ
    rw [Int.sub_zero]
    have hg : ((Int.gcd (f * f) (f * f) : Nat) : Int) = f * f := by rw [Int.gcd_self]; omega
    rw [hg, Int.ediv_self (by omega)]
  simp only [hitB, e, Int.one_mul, Int.mul_one, decide_eq_false_iff_not]
  omega
/-- What a leg is handed as. -/
def IsLeg (x : G) (args : Array Value) (_ : World) : Prop := args = #[.agg #[.int .i64 x.1, .int .i64 x.2]]
theorem rd_g_in {w : World} {b off : Nat} {l : List G} (h : Rd w (some ⟨b, off, none⟩) (gs l)) {k : Nat} (hk : k < l.length) :
    b < w.heap.size ∧ w.cell? ⟨b, off + k * 2, none⟩ = some (.int .i64 l[k].1) ∧ w.cell? ⟨b, off + k * 2 + 1, none⟩ = some (.int .i64 l[k].2) := by
  obtain ⟨b', off', e, h1, h2, h3⟩ := h.g_at hk
  cases e
  exact ⟨h1, h2, h3⟩
set_option maxHeartbeats 8000000 in
theorem legs_iter (N : Nat) (hN : 1 ≤ N) (H f n d : Int) (A : Option Addr) (c : Nat) (l : List G) (hl : l.length ≤ 1000) (hl1 : 1 ≤ l.length) (hc : l.length ≤ c) (hok : OkS l) (H0 : 0 ≤ H) (H1 : H ≤ 500) (h1 : 1 ≤ f) (h2 : f ≤ 3000) (n0 : 0 ≤ n) (n1 : n < d) (d1 : d ≤ 100)
    (S : Nat → Prop) (hSA : gs l ≠ [] → ∀ b off, A = some ⟨b, off, none⟩ → S b) (w : World) (hr : Rd w A (gs l)) (hS : ∀ k, S k → k < w.heap.size) :
    IterB4 Try.prog N 108 #[.agg #[.int .i64 H, .slice A l.length c, .int .i64 f, .int .i64 n, .int .i64 d]] IsLeg (legsL H f n d l) S 1 w := by
  intro lp J W hk hJ hJA hY h0
  have hrW := hr.keepS hSA hk
  have HY := hide hY
  have HJ := hide hJ
  have HSA := hide hSA
  obtain ⟨q, hq⟩ : ∃ q, W.heap.size = q := ⟨_, rfl⟩
  obtain ⟨W1, hW1⟩ : ∃ W1, W.alloc (.cells #[.int .i64 H, .slice A l.length c, .int .i64 f, .int .i64 n, .int .i64 d] 159) = W1 := ⟨_, rfl⟩
  have hbA : Below W.heap.size W W1 := by rw [← hW1]; exact alloc_bel _ _
  have hQ1 : Blk W1 q 159 [.int .i64 H, .slice A l.length c, .int .i64 f, .int .i64 n, .int .i64 d] := by rw [← hW1, ← hq]; exact Blk.new W _ [_, _, _, _, _]
  have hr1 := hrW.bel hbA
  have hj1 := hJ _ _ _ h0 hbA
  have HL0 := hide (fun W' => leg_c H f n d H 0 A l.length c W' h1 h2 (by omega) (by omega) n0 n1 d1 H0 H1 (hit_free h1 h2 n1 H))
  have HLk := hide (fun (k : Nat) (hk : k < pasN f n d l) (h : k < l.length) W' => leg_c H f n d l[k].1 l[k].2 A l.length c W' h1 h2 (hok _ (List.getElem_mem h)).2.2.1 (hok _ (List.getElem_mem h)).2.2.2 n0 n1 d1 (by have := (hok _ (List.getElem_mem h)).1; omega) (hok _ (List.getElem_mem h)).2.1 (pas_not hk h))
  have HPS := hide (fun W' (h : Rd W' A (gs l)) => passed_c H f n d A c l W' h hl hok h1 h2 n0 (by omega) (by omega) d1)
  have hpl := pasN_le f n d l
  have HLEN := hide (legsL_len H f n d l)
  have HX0 : Hid (legsL H f n d l = [] ++ legQ f n d H 0 :: (l.take (pasN f n d l)).map fun g => legQ f n d g.1 g.2) := rfl
  have HT0 : Hid ((legsL H f n d l).take (0 + 1) = [] ++ [legQ f n d H 0]) := rfl
  rw [hq] at HY
  have HW := hide hW1
  obtain ⟨b, off, rfl, hbl, _, _⟩ := hrW.g_at (show 0 < l.length by omega)
  have hSb : S b := hSA (by intro e; have := congrArg List.length e; rw [gs_length, List.length_nil] at this; omega) b off rfl
  have hbq : b < q := by omega
  clear hY hJ hSA hr hrW h0 hk hW1 hbA hbl
  have s0 := hQ1.cell 0; have s1 := hQ1.cell 1; have s2 := hQ1.cell 2; have s3 := hQ1.cell 3; have s4 := hQ1.cell 4; simp only [List.getElem?_cons_zero, List.getElem?_cons_succ] at s0 s1 s2 s3 s4
  have hzq := hQ1.lt
  refine callsIn_of_wp Try.func108 rfl trivial ?_ rfl
  simp only [Try.ntmps108, List.size_toArray, List.length_cons, List.length_nil, Nat.reduceAdd, Nat.reduceSub, Array.replicate_succ, Array.replicate_zero, List.push_toArray, List.append_toArray, List.nil_append, List.cons_append]
  gi_upto_region 1 with fail
  rw [HW.out]
  generalize legQ f n d H 0 = x0 at HL0 HX0 HT0
  gi_wp2_with (refine ⟨trivial, ?_⟩; gi_at_call 156; refine (CallsIn.mono (callsIn_wide.2 (HL0.out _)) ?_); rintro e w1 ⟨rfl, hb1⟩)
  obtain ⟨fn, tmps, assign, body, hy, hR⟩ := HY.out [] x0 _ w1 #[.agg #[.int .i64 x0.1, .int .i64 x0.2]] HX0.out (HJ.out _ _ _ hj1 hb1) rfl (by have := hb1.size; omega)
  rw [hy, Oper.uponIn_round]
  refine ⟨fun h => (by cases h), ?_⟩
  refine hR.mono ?_
  rintro e W3 ⟨rfl, hJ3, hk3, hc3⟩
  have hQ3 : Blk W3 q 159 [.int .i64 H, .slice (some ⟨b, off, none⟩) l.length c, .int .i64 f, .int .i64 n, .int .i64 d] := hc3 q _ (Nat.le_refl _) (Nat.lt_succ_self _) (hQ1.bel hb1)
  have hr3 : Rd W3 (some ⟨b, off, none⟩) (gs l) := (hr1.bel hb1).keepS HSA.out hk3
  rw [← HT0.out] at hJ3
  have hq3 : q < W3.heap.size := hQ3.lt
  clear hy hR hk3 hc3 hb1 hj1 hr1 hQ1 HL0 HX0 HT0 s0 s1 s2 s3 s4 HW
  have s0 := hQ3.cell 0; have s1 := hQ3.cell 1; have s2 := hQ3.cell 2; have s3 := hQ3.cell 3; have s4 := hQ3.cell 4; simp only [List.getElem?_cons_zero, List.getElem?_cons_succ] at s0 s1 s2 s3 s4
  gi_upto_region 2 with fail
  refine wpIn_wide.2 ?_
  go_wp2
  have hSd : (∀ b o, b < W3.heap.size → W3.drew.cell? ⟨b, o, none⟩ = W3.cell? ⟨b, o, none⟩) ∧ Below W3.heap.size W3 W3.drew := kp (Below.refl _ _).drew
  refine wp_region_held (S := fun w' => (∀ b o, b < W3.heap.size → w'.cell? ⟨b, o, none⟩ = W3.cell? ⟨b, o, none⟩) ∧ Below W3.heap.size W3 w') (by kernel_rfl) ?_
  change wpAnyH _ _ _ _ _ _ _ _ W3.drew
  refine wpAnyH_take (i := 0) (v := ?_) rfl (by kernel_rfl) (by kernel_rfl) (by kernel_rfl) (fun _ _ _ h => h) (Or.inl ⟨by kernel_rfl, ?_⟩) (by assumption) ?_
  rotate_left 1
  · (intro w hSw; obtain ⟨hk1, hk2⟩ := hSw; go_simp <;> with_reducible rfl)
  simp only [Act.put, List.getElem_toArray, List.getElem_cons_zero, List.setIfInBounds_toArray, List.set_cons_zero, List.set_cons_succ]
  refine wpAnyH_take (i := 1) (v := ?_) rfl (by kernel_rfl) (by kernel_rfl) (by kernel_rfl) (fun _ _ _ h => h) (Or.inl ⟨by kernel_rfl, ?_⟩) (by assumption) ?_
  rotate_left 1
  · (intro w hSw; obtain ⟨hk1, hk2⟩ := hSw; go_simp <;> with_reducible rfl)
  simp only [Act.put, List.getElem_toArray, List.getElem_cons_zero, List.getElem_cons_succ, List.setIfInBounds_toArray, List.set_cons_zero, List.set_cons_succ]
  refine wpAnyH_take (i := 2) (v := ?_) rfl (by kernel_rfl) (by kernel_rfl) (by kernel_rfl) (fun _ _ _ h => h) (Or.inl ⟨by kernel_rfl, ?_⟩) (by assumption) ?_
  rotate_left 1
  · (intro w hSw; obtain ⟨hk1, hk2⟩ := hSw; go_simp <;> with_reducible rfl)
  simp only [Act.put, List.getElem_toArray, List.getElem_cons_zero, List.getElem_cons_succ, List.setIfInBounds_toArray, List.set_cons_zero, List.set_cons_succ]
  refine wpAnyH_take (i := 3) (v := ?_) rfl (by kernel_rfl) (by kernel_rfl) (by kernel_rfl) (fun _ _ _ h => h) (Or.inl ⟨by kernel_rfl, ?_⟩) (by assumption) ?_
  rotate_left 1
  · (intro w hSw; obtain ⟨hk1, hk2⟩ := hSw; go_simp <;> with_reducible rfl)
  simp only [Act.put, List.getElem_toArray, List.getElem_cons_zero, List.getElem_cons_succ, List.setIfInBounds_toArray, List.set_cons_zero, List.set_cons_succ]
  refine wpAnyH_take (i := 7) (v := ?_) rfl (by kernel_rfl) (by kernel_rfl) (by kernel_rfl) (fun _ _ _ h => h) (Or.inl ⟨by kernel_rfl, ?_⟩) (by assumption) ?_
  rotate_left 1
  · (intro w hSw; obtain ⟨hk1, hk2⟩ := hSw; go_simp <;> with_reducible rfl)
  simp only [Act.put, List.getElem_toArray, List.getElem_cons_zero, List.getElem_cons_succ, List.setIfInBounds_toArray, List.set_cons_zero, List.set_cons_succ]
  refine nextH (i := 4) (by kernel_rfl) rfl (fun K hK => ?_)
  go_simp
  refine (HPS.out _ (hr3.bel hSd.2)).mono ?_
  rintro e_ w4 ⟨rfl, hbx⟩
  have hS' := kp (bel_tr hSd.2 hSd.2.size hbx)
  try dsimp only
  refine hK _ _ hS' ?_
  clear hK K hSd hbx
  have hSd := hS'
  clear hS'
  obtain ⟨M, hM⟩ : ∃ M, pasN f n d l = M := ⟨_, rfl⟩
  rw [hM] at hpl HLk HLEN ⊢
  have hMc : M ≤ c := by omega
  have hMM := hide hM
  clear hM HPS
  refine wpAnyH_take (i := 5) (v := ?_) rfl (by kernel_rfl) (by kernel_rfl) (by kernel_rfl) (fun _ _ _ h => h) (Or.inl ⟨by kernel_rfl, ?_⟩) (by assumption) ?_
  rotate_left 1
  · (intro w hSw; obtain ⟨hk1, hk2⟩ := hSw; go_simp <;> with_reducible rfl)
  simp only [Act.put, List.getElem_toArray, List.getElem_cons_zero, List.getElem_cons_succ, List.setIfInBounds_toArray, List.set_cons_zero, List.set_cons_succ]
  refine wpAnyH_take (i := 6) (v := ?_) rfl (by kernel_rfl) (by kernel_rfl) (by kernel_rfl) (fun _ _ _ h => h) (Or.inl ⟨by kernel_rfl, ?_⟩) (by assumption) ?_
  rotate_left 1
  · (intro w hSw; obtain ⟨hk1, hk2⟩ := hSw; go_simp <;> with_reducible rfl)
  simp only [Act.put, List.getElem_toArray, List.getElem_cons_zero, List.getElem_cons_succ, List.setIfInBounds_toArray, List.set_cons_zero, List.set_cons_succ]
  refine wpAnyH_done (by kernel_rfl) ?_ _
  have hr4 := hr3.bel hSd.2
  have hQ4 := hQ3.bel hSd.2
  have hj4 := HJ.out _ _ _ hJ3 hSd.2
  clear s0 s1 s2 s3 s4 hQ3 hr3 hJ3 hq3 hSd
  go_wp2
  gi_wp2
  gi_loopw [22] (fun i wr => ∃ k : Nat, k ≤ M ∧ i = .int .i64 k ∧ Blk wr q 159 [.int .i64 H, .slice (some ⟨b, off, none⟩) l.length c, .int .i64 f, .int .i64 n, .int .i64 d] ∧ Rd wr (some ⟨b, off, none⟩) (gs l) ∧ J ((legsL H f n d l).take (k + 1)) wr) (fun i _ => M - (intOf i).toNat)
  case atStart => exact ⟨0, Nat.zero_le _, rfl, hQ4, hr4, hj4⟩
  case round =>
    clear hQ4 hr4 hj4
    obtain ⟨k, hkM, rfl, hQr, hrr, hj⟩ := hrel
    by_cases hlt : k < M
    · have hkl : k < l.length := by omega
      obtain ⟨hbl, g0, g1⟩ := rd_g_in hrr hkl
      have HL := hide (HLk.out k hlt hkl)
      have hkL : k + 1 < (legsL H f n d l).length := by rw [HLEN.out]; omega
      have hX : Hid (legsL H f n d l = (legsL H f n d l).take (k + 1) ++ legQ f n d l[k].1 l[k].2 :: (legsL H f n d l).drop (k + 2)) := by
        show _ = _
        rw [← legsL_at H f n d l (by rw [hMM.out]; exact hlt) hkL hkl, List.getElem_cons_drop, List.take_append_drop]
      have hT : Hid ((legsL H f n d l).take (k + 1 + 1) = (legsL H f n d l).take (k + 1) ++ [legQ f n d l[k].1 l[k].2]) := by
        show _ = _
        rw [← legsL_at H f n d l (by rw [hMM.out]; exact hlt) hkL hkl]
        exact List.take_succ_eq_append_getElem hkL
      generalize legQ f n d l[k].1 l[k].2 = y at HL hX hT
      generalize l[k] = z at g0 g1 HL
      obtain ⟨z1, z2⟩ := z
      dsimp only at g0 g1 HL
      have s0 := hQr.cell 0; have s1 := hQr.cell 1; have s2 := hQr.cell 2; have s3 := hQr.cell 3; have s4 := hQr.cell 4; simp only [List.getElem?_cons_zero, List.getElem?_cons_succ] at s0 s1 s2 s3 s4
      have hzq := hQr.lt
      clear hkl hkL
      gi_upto_region 5 with fail
      obtain ⟨W5, hW5⟩ : ∃ W5, wr.alloc (.cells #[.int .i64 z1, .int .i64 z2] 79) = W5 := ⟨_, rfl⟩
      obtain ⟨v, hv⟩ : ∃ v, wr.heap.size = v := ⟨_, rfl⟩
      have hb5 : Below wr.heap.size wr W5 := by rw [← hW5]; exact alloc_bel _ _
      have hV5 : Blk W5 v 79 [.int .i64 z1, .int .i64 z2] := by rw [← hW5, ← hv]; exact Blk.new wr _ [_, _]
      rw [hW5]
      try rw [hv]
      clear hW5
      have hQ5 := hQr.bel hb5
      have hr5 := hrr.bel hb5
      have hj5 := HJ.out _ _ _ hj hb5
      clear s0 s1 s2 s3 s4 hQr hrr hj g0 g1 hb5 hv
      have s0 := hQ5.cell 0; have s1 := hQ5.cell 1; have s2 := hQ5.cell 2; have s3 := hQ5.cell 3; have s4 := hQ5.cell 4; simp only [List.getElem?_cons_zero, List.getElem?_cons_succ] at s0 s1 s2 s3 s4
      have v0 := hV5.cell 0; have v1 := hV5.cell 1; simp only [List.getElem?_cons_zero, List.getElem?_cons_succ] at v0 v1
      have hzq5 := hQ5.lt
      clear hV5
      gi_wp2_with (refine ⟨trivial, ?_⟩; gi_at_call 156; refine (CallsIn.mono (callsIn_wide.2 (HL.out _)) ?_); rintro e w1 ⟨rfl, hb1⟩)
      obtain ⟨fn, tmps, assign, body, hy, hR⟩ := HY.out _ y _ w1 #[.agg #[.int .i64 y.1, .int .i64 y.2]] hX.out (HJ.out _ _ _ hj5 hb1) rfl (by have := hb1.size; omega)
      rw [hy, Oper.uponIn_round]
      refine ⟨fun h => (by cases h), ?_⟩
      refine hR.mono ?_
      rintro e W6 ⟨rfl, hJ6, hk6, hc6⟩
      have hQ6 : Blk W6 q 159 [.int .i64 H, .slice (some ⟨b, off, none⟩) l.length c, .int .i64 f, .int .i64 n, .int .i64 d] := hc6 q _ (Nat.le_refl _) (Nat.lt_succ_self _) (hQ5.bel hb1)
      have hr6 : Rd W6 (some ⟨b, off, none⟩) (gs l) := (hr5.bel hb1).keepS HSA.out hk6
      rw [← hT.out] at hJ6
      clear hy hR hk6 hc6 hb1 s0 s1 s2 s3 s4 v0 v1 hQ5 hr5 hj5 HL hX hT
      gi_wp2
      exact ⟨⟨k + 1, by omega, by go_num, hQ6, hr6, hJ6⟩, by simp [intOf]; omega⟩
    · obtain rfl : k = M := by omega
      have hj9 : J (legsL H f n d l) wr := by
        rw [List.take_of_length_le (by rw [HLEN.out]; omega)] at hj
        exact hj
      gi_wp2
      go_end0
      exact ⟨⟨_, rfl⟩, hj9⟩
end Go.Proofs.Ytkcjiejdjdcbeaa
