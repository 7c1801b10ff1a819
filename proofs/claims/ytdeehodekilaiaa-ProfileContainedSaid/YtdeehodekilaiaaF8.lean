/- Contracts: the check of a trace. -/
import Derived.Test.YtdeehodekilaiaaF7
set_option linter.unusedSimpArgs false
set_option linter.unusedVariables false
namespace Go.Proofs.Ytdeehodekilaiaa
open Go.RowKit
set_option maxRecDepth 100000

theorem still {f : FuncId} {args : Array Value} {w : World} {v : Value} (h : Calls Try.prog f args w fun r w' => r = .returned v ∧ w = w') : Calls Try.prog f args w fun e w'' => e = .returned v ∧ w'' = w :=
  h.mono fun _ _ ⟨h1, h2⟩ => ⟨h1, h2.symm⟩
set_option maxHeartbeats 1000000 in
theorem pixelError_off (lo hi : Int) (w : World) (h : outB lo 0 20000 = true) :
    Calls Try.prog 73 #[.agg #[.int .i64 lo, .int .i64 hi]] w fun r w' => r = .returned (.int .i64 (pixE lo hi)) ∧ Below w.heap.size w w' := by
  have HL := hide (fun W => outside_c lo 0 20000 W)
  have HH := hide (fun W => outside_c hi 0 20000 W)
  have HR : Hid (pixE lo hi = firstE [errIf true 2, errIf (decide (hi < lo)) 9]) := by show _ = _; unfold pixE; rw [h]; rfl
  rw [h] at HL
  clear h
  have hX := Blk.new w 51 [.int .i64 lo, .int .i64 hi]
  have hbel := alloc_bel w (.cells #[.int .i64 lo, .int .i64 hi] 51)
  generalize hW : w.alloc (.cells #[.int .i64 lo, .int .i64 hi] 51) = W at hX hbel
  have HW := hide hW
  clear hW
  have c0 := hX.cell 0; have c1 := hX.cell 1; simp only [List.getElem?_cons_zero, List.getElem?_cons_succ] at c0 c1
  have hzW := hX.lt
  go_enter Try.func73, Try.ntmps73
  go_wp2
  rw [HW.out]
  clear hX
  refine wp_region_still_tail 15 (by kernel_rfl) (by kernel_rfl) ?_
  simp only [List.take_succ_cons, List.take_zero, List.drop_succ_cons, List.drop_zero]
  repeat (
    refine wpStill_step (fun K hK => ?_)
    go_simp
    first
      | (refine hK _ ?_; clear hK K)
      | (with_reducible refine ⟨_, still (HL.out _), hK _ ?_⟩; clear hK K)
      | (with_reducible refine ⟨_, still (HH.out _), hK _ ?_⟩; clear hK K)
      | (refine ⟨_, still (errorIf_c _ _ _), hK _ ?_⟩; clear hK K))
  refine wpStill_nil ?_
  change wpList _ _ _ _ _ W.drew
  have hbd : Below w.heap.size w W.drew := hbel.drew
  generalize W.drew = V at hbd ⊢
  go_wp2_with (first | (go_at_call 33; refine (firstError_2 _ _ _).mono ?_; rintro e_ w_ ⟨rfl, rfl⟩))
  go_ret
  exact ⟨by rw [HR.out]; rfl, bel_alloc hbd hbd.size _⟩
set_option maxHeartbeats 1000000 in
theorem pixelError_on (lo hi : Int) (w : World) (h : outB lo 0 20000 = false) :
    Calls Try.prog 73 #[.agg #[.int .i64 lo, .int .i64 hi]] w fun r w' => r = .returned (.int .i64 (pixE lo hi)) ∧ Below w.heap.size w w' := by
  have HL := hide (fun W => outside_c lo 0 20000 W)
  have HH := hide (fun W => outside_c hi 0 20000 W)
  have HR : Hid (pixE lo hi = firstE [errIf (outB hi 0 20000) 2, errIf (decide (hi < lo)) 9]) := by show _ = _; unfold pixE; rw [h]; rfl
  rw [h] at HL
  clear h
  have hX := Blk.new w 51 [.int .i64 lo, .int .i64 hi]
  have hbel := alloc_bel w (.cells #[.int .i64 lo, .int .i64 hi] 51)
  generalize hW : w.alloc (.cells #[.int .i64 lo, .int .i64 hi] 51) = W at hX hbel
  have HW := hide hW
  clear hW
  have c0 := hX.cell 0; have c1 := hX.cell 1; simp only [List.getElem?_cons_zero, List.getElem?_cons_succ] at c0 c1
  have hzW := hX.lt
  go_enter Try.func73, Try.ntmps73
  go_wp2
  rw [HW.out]
  clear hX
  refine wp_region_still_tail 15 (by kernel_rfl) (by kernel_rfl) ?_
  simp only [List.take_succ_cons, List.take_zero, List.drop_succ_cons, List.drop_zero]
  repeat (
    refine wpStill_step (fun K hK => ?_)
    go_simp
    first
      | (refine hK _ ?_; clear hK K)
      | (with_reducible refine ⟨_, still (HL.out _), hK _ ?_⟩; clear hK K)
      | (with_reducible refine ⟨_, still (HH.out _), hK _ ?_⟩; clear hK K)
      | (refine ⟨_, still (errorIf_c _ _ _), hK _ ?_⟩; clear hK K))
  refine wpStill_nil ?_
  change wpList _ _ _ _ _ W.drew
  have hbd : Below w.heap.size w W.drew := hbel.drew
  generalize W.drew = V at hbd ⊢
  go_wp2_with (first | (go_at_call 33; refine (firstError_2 _ _ _).mono ?_; rintro e_ w_ ⟨rfl, rfl⟩))
  go_ret
  exact ⟨by rw [HR.out]; rfl, bel_alloc hbd hbd.size _⟩
theorem pixelError_c (lo hi : Int) (w : World) :
    Calls Try.prog 73 #[.agg #[.int .i64 lo, .int .i64 hi]] w fun r w' => r = .returned (.int .i64 (pixE lo hi)) ∧ Below w.heap.size w w' := by
  cases h : outB lo 0 20000
  · exact pixelError_on lo hi w h
  · exact pixelError_off lo hi w h

theorem nextH {P : Program} {ops : Array Oper} {Q : Exit → Act → World → Prop} {md : Region.Mode} {S : World → Prop} {n : Nat} {l : Array Bool} {a : Act} {w : World} {i : Nat} {o : Oper} (hr : Region.ready md ops l = [i]) (ho : ops[i]? = some o)
    (h : ∀ K : Act → World → Prop, (∀ a w, S w → wpAnyH P md ops Q S n (l.setIfInBounds i true) a w → K a w) → if Region.wanted o (yielded ops a.tmps) = true then Oper.wp P o a w K Q else K (a.put o.dst undef) w) :
    wpAnyH P md ops Q S (n + 1) l a w := wpAnyH_all hr (by simp) (fun j hj => by
  rcases List.mem_singleton.1 hj with rfl
  exact wpOp_step ho fun K hK => h K fun a w hS hW => hK a w ⟨hS, hW⟩)

set_option maxHeartbeats 2000000 in
theorem checkTrace1_zero (f lo hi : Int) (A : Option Addr) (c : Nat) (after width : Int) (B : Nat) (l : List PT) (w : World) (hB : Blk w B 30 [.slice A l.length c, .int .i64 after, .int .i64 width]) :
    Calls Try.prog 72 (#[.int .i64 (0 : Int), .agg #[.int .i64 f, .int .i64 lo, .int .i64 hi]] ++ #[.pointer (some ⟨B, 0, none⟩)]) w fun r w' => r = .returned (.int .i64 (pointE l 0 (f, lo, hi))) ∧ Below w.heap.size w w' := by
  have HR : Hid (pointE l 0 (f, lo, hi) = firstE [freqE f, pixE lo hi, errIf false 9]) := rfl
  rw [show (#[.int .i64 (0 : Int), .agg #[.int .i64 f, .int .i64 lo, .int .i64 hi]] ++ #[.pointer (some ⟨B, 0, none⟩)] : Array Value) = #[.int .i64 (0 : Int), .agg #[.int .i64 f, .int .i64 lo, .int .i64 hi], .pointer (some ⟨B, 0, none⟩)] from rfl]
  have hX := Blk.new w 55 [.int .i64 f, .int .i64 lo, .int .i64 hi]
  have hbel := alloc_bel w (.cells #[.int .i64 f, .int .i64 lo, .int .i64 hi] 55)
  generalize hW : w.alloc (.cells #[.int .i64 f, .int .i64 lo, .int .i64 hi] 55) = W at hX hbel
  have HW := hide hW
  clear hW
  have c0 := hX.cell 0; have c1 := hX.cell 1; have c2 := hX.cell 2; simp only [List.getElem?_cons_zero, List.getElem?_cons_succ] at c0 c1 c2
  have hzW := hX.lt
  have hB' := hB.bel hbel
  have k0 := hB'.cell 0
  simp only [List.getElem?_cons_zero] at k0
  have hzB := hB'.lt
  clear hX hB hB'
  go_enter Try.func72, Try.ntmps72
  go_wp2
  rw [HW.out]
  refine wp_region_held (S := fun w' => (∀ b o, b < W.heap.size → w'.cell? ⟨b, o, none⟩ = W.cell? ⟨b, o, none⟩) ∧ Below W.heap.size W w') (by kernel_rfl) ?_
  have hSd : (∀ b o, b < W.heap.size → W.drew.cell? ⟨b, o, none⟩ = W.cell? ⟨b, o, none⟩) ∧ Below W.heap.size W W.drew := kp (Below.refl _ _).drew
  change wpAnyH _ _ _ _ _ _ _ _ W.drew
  refine wpAnyH_take (i := 0) (v := ?_) rfl (by kernel_rfl) (by kernel_rfl) (by kernel_rfl) (fun _ _ _ h => h) (Or.inl ⟨by kernel_rfl, ?_⟩) (by assumption) ?_
  rotate_left 1
  · (intro w hSw; obtain ⟨hk1, hk2⟩ := hSw; go_simp <;> with_reducible rfl)
  simp only [Act.put, List.getElem_toArray, List.getElem_cons_zero, List.setIfInBounds_toArray, List.set_cons_zero, List.set_cons_succ]
  refine wpAnyH_take (i := 1) (v := ?_) rfl (by kernel_rfl) (by kernel_rfl) (by kernel_rfl) (fun _ _ _ h => h) (Or.inl ⟨by kernel_rfl, ?_⟩) (by assumption) ?_
  rotate_left 1
  · (intro w hSw; obtain ⟨hk1, hk2⟩ := hSw; go_simp <;> with_reducible rfl)
  simp only [Act.put, List.getElem_toArray, List.getElem_cons_zero, List.getElem_cons_succ, List.setIfInBounds_toArray, List.set_cons_zero, List.set_cons_succ]
  refine wpAnyH_take (i := 3) (v := ?_) rfl (by kernel_rfl) (by kernel_rfl) (by kernel_rfl) (fun _ _ _ h => h) (Or.inl ⟨by kernel_rfl, ?_⟩) (by assumption) ?_
  rotate_left 1
  · (intro w hSw; obtain ⟨hk1, hk2⟩ := hSw; go_simp <;> with_reducible rfl)
  simp only [Act.put, List.getElem_toArray, List.getElem_cons_zero, List.getElem_cons_succ, List.setIfInBounds_toArray, List.set_cons_zero, List.set_cons_succ]
  refine wpAnyH_take (i := 4) (v := ?_) rfl (by kernel_rfl) (by kernel_rfl) (by kernel_rfl) (fun _ _ _ h => h) (Or.inl ⟨by kernel_rfl, ?_⟩) (by assumption) ?_
  rotate_left 1
  · (intro w hSw; obtain ⟨hk1, hk2⟩ := hSw; go_simp <;> with_reducible rfl)
  simp only [Act.put, List.getElem_toArray, List.getElem_cons_zero, List.getElem_cons_succ, List.setIfInBounds_toArray, List.set_cons_zero, List.set_cons_succ]
  refine wpAnyH_take (i := 6) (v := ?_) rfl (by kernel_rfl) (by kernel_rfl) (by kernel_rfl) (fun _ _ _ h => h) (Or.inl ⟨by kernel_rfl, ?_⟩) (by assumption) ?_
  rotate_left 1
  · (intro w hSw; obtain ⟨hk1, hk2⟩ := hSw; go_simp <;> with_reducible rfl)
  simp only [Act.put, List.getElem_toArray, List.getElem_cons_zero, List.getElem_cons_succ, List.setIfInBounds_toArray, List.set_cons_zero, List.set_cons_succ]
  refine wpAnyH_take (i := 7) (v := ?_) rfl (by kernel_rfl) (by kernel_rfl) (by kernel_rfl) (fun _ _ _ h => h) (Or.inl ⟨by kernel_rfl, ?_⟩) (by assumption) ?_
  rotate_left 1
  · (intro w hSw; obtain ⟨hk1, hk2⟩ := hSw; go_simp <;> with_reducible rfl)
  simp only [Act.put, List.getElem_toArray, List.getElem_cons_zero, List.getElem_cons_succ, List.setIfInBounds_toArray, List.set_cons_zero, List.set_cons_succ]
  refine nextH (i := 2) (by kernel_rfl) rfl (fun K hK => ?_)
  go_simp
  refine (frequencyError_c _ _).mono ?_
  rintro e w2 ⟨rfl, rfl⟩
  try dsimp only
  refine hK _ _ hSd ?_
  clear hK K
  refine nextH (i := 5) (by kernel_rfl) rfl (fun K hK => ?_)
  go_simp
  refine (pixelError_c _ _ _).mono ?_
  rintro e w5 ⟨rfl, hb⟩
  have hS1 := kp (bel_tr hSd.2 hSd.2.size hb)
  clear hSd hb
  have hSd := hS1
  clear hS1
  try dsimp only
  refine hK _ _ hSd ?_
  clear hK K
  refine wpAnyH_take (i := 8) (v := ?_) rfl (by kernel_rfl) (by kernel_rfl) (by kernel_rfl) (fun _ _ _ h => h) (Or.inl ⟨by kernel_rfl, ?_⟩) (by assumption) ?_
  rotate_left 1
  · (intro w hSw; obtain ⟨hk1, hk2⟩ := hSw; go_simp <;> with_reducible rfl)
  simp only [Act.put, List.getElem_toArray, List.getElem_cons_zero, List.getElem_cons_succ, List.setIfInBounds_toArray, List.set_cons_zero, List.set_cons_succ]
  refine wpAnyH_take (i := 9) (v := undef) rfl (by kernel_rfl) (by kernel_rfl) (by kernel_rfl) (fun _ _ _ h => h) (Or.inr ⟨by kernel_rfl, rfl⟩) (by assumption) ?_
  simp only [Act.put, List.getElem_toArray, List.getElem_cons_zero, List.getElem_cons_succ, List.setIfInBounds_toArray, List.set_cons_zero, List.set_cons_succ]
  refine wpAnyH_take (i := 10) (v := undef) rfl (by kernel_rfl) (by kernel_rfl) (by kernel_rfl) (fun _ _ _ h => h) (Or.inr ⟨by kernel_rfl, rfl⟩) (by assumption) ?_
  simp only [Act.put, List.getElem_toArray, List.getElem_cons_zero, List.getElem_cons_succ, List.setIfInBounds_toArray, List.set_cons_zero, List.set_cons_succ]
  refine wpAnyH_take (i := 11) (v := undef) rfl (by kernel_rfl) (by kernel_rfl) (by kernel_rfl) (fun _ _ _ h => h) (Or.inr ⟨by kernel_rfl, rfl⟩) (by assumption) ?_
  simp only [Act.put, List.getElem_toArray, List.getElem_cons_zero, List.getElem_cons_succ, List.setIfInBounds_toArray, List.set_cons_zero, List.set_cons_succ]
  refine wpAnyH_take (i := 12) (v := undef) rfl (by kernel_rfl) (by kernel_rfl) (by kernel_rfl) (fun _ _ _ h => h) (Or.inr ⟨by kernel_rfl, rfl⟩) (by assumption) ?_
  simp only [Act.put, List.getElem_toArray, List.getElem_cons_zero, List.getElem_cons_succ, List.setIfInBounds_toArray, List.set_cons_zero, List.set_cons_succ]
  refine wpAnyH_take (i := 13) (v := undef) rfl (by kernel_rfl) (by kernel_rfl) (by kernel_rfl) (fun _ _ _ h => h) (Or.inr ⟨by kernel_rfl, rfl⟩) (by assumption) ?_
  simp only [Act.put, List.getElem_toArray, List.getElem_cons_zero, List.getElem_cons_succ, List.setIfInBounds_toArray, List.set_cons_zero, List.set_cons_succ]
  refine wpAnyH_take (i := 14) (v := undef) rfl (by kernel_rfl) (by kernel_rfl) (by kernel_rfl) (fun _ _ _ h => h) (Or.inr ⟨by kernel_rfl, rfl⟩) (by assumption) ?_
  simp only [Act.put, List.getElem_toArray, List.getElem_cons_zero, List.getElem_cons_succ, List.setIfInBounds_toArray, List.set_cons_zero, List.set_cons_succ]
  refine wpAnyH_take (i := 15) (v := undef) rfl (by kernel_rfl) (by kernel_rfl) (by kernel_rfl) (fun _ _ _ h => h) (Or.inr ⟨by kernel_rfl, rfl⟩) (by assumption) ?_
  simp only [Act.put, List.getElem_toArray, List.getElem_cons_zero, List.getElem_cons_succ, List.setIfInBounds_toArray, List.set_cons_zero, List.set_cons_succ]
  refine wpAnyH_take (i := 16) (v := undef) rfl (by kernel_rfl) (by kernel_rfl) (by kernel_rfl) (fun _ _ _ h => h) (Or.inr ⟨by kernel_rfl, rfl⟩) (by assumption) ?_
  simp only [Act.put, List.getElem_toArray, List.getElem_cons_zero, List.getElem_cons_succ, List.setIfInBounds_toArray, List.set_cons_zero, List.set_cons_succ]
  refine wpAnyH_take (i := 17) (v := undef) rfl (by kernel_rfl) (by kernel_rfl) (by kernel_rfl) (fun _ _ _ h => h) (Or.inr ⟨by kernel_rfl, rfl⟩) (by assumption) ?_
  simp only [Act.put, List.getElem_toArray, List.getElem_cons_zero, List.getElem_cons_succ, List.setIfInBounds_toArray, List.set_cons_zero, List.set_cons_succ]
  refine wpAnyH_take (i := 18) (v := undef) rfl (by kernel_rfl) (by kernel_rfl) (by kernel_rfl) (fun _ _ _ h => h) (Or.inr ⟨by kernel_rfl, rfl⟩) (by assumption) ?_
  simp only [Act.put, List.getElem_toArray, List.getElem_cons_zero, List.getElem_cons_succ, List.setIfInBounds_toArray, List.set_cons_zero, List.set_cons_succ]
  refine wpAnyH_take (i := 19) (v := ?_) rfl (by kernel_rfl) (by kernel_rfl) (by kernel_rfl) (fun _ _ _ h => h) (Or.inl ⟨by kernel_rfl, ?_⟩) (by assumption) ?_
  rotate_left 1
  · (intro w hSw; obtain ⟨hk1, hk2⟩ := hSw; go_simp <;> with_reducible rfl)
  simp only [Act.put, List.getElem_toArray, List.getElem_cons_zero, List.getElem_cons_succ, List.setIfInBounds_toArray, List.set_cons_zero, List.set_cons_succ]
  refine nextH (i := 20) (by kernel_rfl) rfl (fun K hK => ?_)
  go_simp
  refine (errorIf_c _ _ _).mono ?_
  rintro e w20 ⟨rfl, rfl⟩
  try dsimp only
  refine hK _ _ hSd ?_
  clear hK K
  have hbE := bel_tr hbel (by omega) (bel_alloc hSd.2 hSd.2.size (.cells #[.int .i64 (freqE f), .int .i64 (pixE lo hi), .int .i64 (errIf false 9)] 31))
  refine nextH (i := 21) (by kernel_rfl) rfl (fun K hK => ?_)
  go_simp
  have hS1 := kp (bel_alloc hSd.2 hSd.2.size (.cells #[.int .i64 (freqE f), .int .i64 (pixE lo hi), .int .i64 (errIf false 9)] 31))
  try dsimp only
  refine hK _ _ hS1 ?_
  clear hK K
  clear hSd
  have hSd := hS1
  clear hS1
  refine nextH (i := 22) (by kernel_rfl) rfl (fun K hK => ?_)
  go_simp
  refine (firstError_3 _ _ _ _).mono ?_
  rintro e w22 ⟨rfl, rfl⟩
  try dsimp only
  refine hK _ _ hSd ?_
  clear hK K
  refine nextH (i := 23) (by kernel_rfl) rfl (fun K hK => ?_)
  go_simp
  refine hK _ _ hSd ?_
  clear hK K
  refine wpAnyH_done (by kernel_rfl) ?_ _
  go_wp2
  go_ret
  exact ⟨by rw [HR.out]; rfl, hbE⟩

end Go.Proofs.Ytdeehodekilaiaa
