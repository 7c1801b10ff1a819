/- Contracts: the check of a net, whole; the check of a plan. -/
import Derived.Test.YtmdmkmfemhkfgaaE13
import Derived.Test.YtmdmkmfemhkfgaaE21
set_option linter.unusedSimpArgs false
set_option linter.unusedVariables false
set_option linter.unusedSimpArgs false
set_option linter.unusedVariables false
namespace Go.Proofs.Ytmdmkmfemhkfgaa
open Go.RowKit
set_option maxRecDepth 100000

set_option maxHeartbeats 4000000 in
theorem checkNet1_off (k : Nat) (a b n : Int) (B : Nat) (A : Option Addr) (c : Nat) (l : List G) (w : World) (hX : Blk w B 71 [.int .i64 n, .slice A l.length c]) (hr : Rd w A (gs l)) (hk : k < l.length) (hl : l.length ≤ 1000) (hc : l.length ≤ c) (h0 : 1 ≤ n) (h1 : n ≤ 8) (ha : outB a 0 (n - 1) = true) :
    Calls Try.prog 71 (#[.int .i64 (k : Int), .agg #[.int .i64 a, .int .i64 b]] ++ #[.pointer (some ⟨B, 0, none⟩)]) w fun r w' => r = .returned (.int .i64 (pairE n l k (a, b))) ∧ Below w.heap.size w w' := by
  rw [show (#[.int .i64 (k : Int), .agg #[.int .i64 a, .int .i64 b]] ++ #[.pointer (some ⟨B, 0, none⟩)] : Array Value) = #[.int .i64 (k : Int), .agg #[.int .i64 a, .int .i64 b], .pointer (some ⟨B, 0, none⟩)] from rfl]
  obtain ⟨W, hW⟩ : ∃ W, w.alloc (.cells #[.int .i64 a, .int .i64 b] 42) = W := ⟨_, rfl⟩
  have hB0 : Below w.heap.size w W := by rw [← hW]; exact alloc_bel _ _
  have hY0 : Blk W w.heap.size 42 [.int .i64 a, .int .i64 b] := by rw [← hW]; exact Blk.new w _ [_, _]
  have hX0 := hX.bel hB0
  have hr0 := hr.bel hB0
  have HR : Hid (pairE n l k (a, b) = firstE [errIf true 6, errIf (decide (b ≤ a)) 9, errIf (decide ((a, b) ∈ l.take k)) 23]) := by show _ = _; unfold pairE; rw [ha, Bool.true_or]
  have hrk : Rd W A (gs (l.take k)) := by
    intro hx
    obtain ⟨g, off, e, hg, hcell⟩ := hr0 (by intro e; have := congrArg List.length e; rw [gs_length, List.length_nil] at this; omega)
    refine ⟨g, off, e, hg, fun j u hu => hcell j u ?_⟩
    have e2 : gs l = gs (l.take k) ++ gs (l.drop k) := by rw [← gs_append, List.take_append_drop]
    rw [e2, List.getElem?_append_left (List.getElem?_eq_some_iff.1 hu).1]
    exact hu
  have HM := hide (fun W' (hb : Below W.heap.size W W') x => missing_c x n B W' ((hb.cell (p := ⟨B, 0, none⟩) hX0.lt).trans (hX0.cell 0)) h0 h1)
  have HC := hide (fun W' (hb : Below W.heap.size W W') => contains_c (l.take k) A c a b W' (hrk.bel hb) (by rw [List.length_take]; omega))
  rw [List.length_take_of_le (by omega)] at HC
  generalize decide ((a, b) ∈ l.take k) = dbl at HC HR
  have hblk := hX0.lt
  have hblk2 := hY0.lt
  obtain ⟨g, off, rfl, hg, _, _⟩ := hr0.g_at hk
  have HW := hide hW
  clear hW
  have c0 := hX0.cell 0; have c1 := hX0.cell 1; simp only [List.getElem?_cons_zero, List.getElem?_cons_succ] at c0 c1
  have d0 := hY0.cell 0; have d1 := hY0.cell 1; simp only [List.getElem?_cons_zero, List.getElem?_cons_succ] at d0 d1
  have i0 : (k : Int) ≤ (c : Int) := by omega
  clear hrk hr hr0 hX hX0 hY0
  go_enter Try.func71, Try.ntmps71
  go_upto_region 2 with fail
  rw [HW.out]
  have hSd : (∀ b o, b < W.heap.size → W.drew.cell? ⟨b, o, none⟩ = W.cell? ⟨b, o, none⟩) ∧ Below W.heap.size W W.drew := kp (Below.refl _ _).drew
  refine wp_region_held (S := fun w' => (∀ b o, b < W.heap.size → w'.cell? ⟨b, o, none⟩ = W.cell? ⟨b, o, none⟩) ∧ Below W.heap.size W w') (by kernel_rfl) ?_
  change wpAnyH _ _ _ _ _ _ _ _ W.drew
  refine wpAnyH_take (i := 0) (v := ?_) rfl (by kernel_rfl) (by kernel_rfl) (by kernel_rfl) (fun _ _ _ h => h) (Or.inl ⟨by kernel_rfl, ?_⟩) (by assumption) ?_
  rotate_left 1
  · (intro w hSw; obtain ⟨hk1, hk2⟩ := hSw; go_simp <;> with_reducible rfl)
  simp only [Act.put, List.getElem_toArray, List.getElem_cons_zero, List.setIfInBounds_toArray, List.set_cons_zero, List.set_cons_succ]
  refine wpAnyH_take (i := 1) (v := ?_) rfl (by kernel_rfl) (by kernel_rfl) (by kernel_rfl) (fun _ _ _ h => h) (Or.inl ⟨by kernel_rfl, ?_⟩) (by assumption) ?_
  rotate_left 1
  · (intro w hSw; obtain ⟨hk1, hk2⟩ := hSw; go_simp <;> with_reducible rfl)
  simp only [Act.put, List.getElem_toArray, List.getElem_cons_zero, List.getElem_cons_succ, List.setIfInBounds_toArray, List.set_cons_zero, List.set_cons_succ]
  refine wpAnyH_take (i := 2) (v := ?_) rfl (by kernel_rfl) (by kernel_rfl) (by kernel_rfl) (fun _ _ _ h => h) (Or.inl ⟨by kernel_rfl, ?_⟩) (by assumption) ?_
  rotate_left 1
  · (intro w hSw; obtain ⟨hk1, hk2⟩ := hSw; go_simp <;> with_reducible rfl)
  simp only [Act.put, List.getElem_toArray, List.getElem_cons_zero, List.getElem_cons_succ, List.setIfInBounds_toArray, List.set_cons_zero, List.set_cons_succ]
  refine wpAnyH_take (i := 11) (v := ?_) rfl (by kernel_rfl) (by kernel_rfl) (by kernel_rfl) (fun _ _ _ h => h) (Or.inl ⟨by kernel_rfl, ?_⟩) (by assumption) ?_
  rotate_left 1
  · (intro w hSw; obtain ⟨hk1, hk2⟩ := hSw; go_simp <;> with_reducible rfl)
  simp only [Act.put, List.getElem_toArray, List.getElem_cons_zero, List.getElem_cons_succ, List.setIfInBounds_toArray, List.set_cons_zero, List.set_cons_succ]
  refine wpAnyH_take (i := 12) (v := ?_) rfl (by kernel_rfl) (by kernel_rfl) (by kernel_rfl) (fun _ _ _ h => h) (Or.inl ⟨by kernel_rfl, ?_⟩) (by assumption) ?_
  rotate_left 1
  · (intro w hSw; obtain ⟨hk1, hk2⟩ := hSw; go_simp <;> with_reducible rfl)
  simp only [Act.put, List.getElem_toArray, List.getElem_cons_zero, List.getElem_cons_succ, List.setIfInBounds_toArray, List.set_cons_zero, List.set_cons_succ]
  refine wpAnyH_take (i := 13) (v := ?_) rfl (by kernel_rfl) (by kernel_rfl) (by kernel_rfl) (fun _ _ _ h => h) (Or.inl ⟨by kernel_rfl, ?_⟩) (by assumption) ?_
  rotate_left 1
  · (intro w hSw; obtain ⟨hk1, hk2⟩ := hSw; go_simp <;> with_reducible rfl)
  simp only [Act.put, List.getElem_toArray, List.getElem_cons_zero, List.getElem_cons_succ, List.setIfInBounds_toArray, List.set_cons_zero, List.set_cons_succ]
  refine wpAnyH_take (i := 14) (v := ?_) rfl (by kernel_rfl) (by kernel_rfl) (by kernel_rfl) (fun _ _ _ h => h) (Or.inl ⟨by kernel_rfl, ?_⟩) (by assumption) ?_
  rotate_left 1
  · (intro w hSw; obtain ⟨hk1, hk2⟩ := hSw; go_simp <;> with_reducible rfl)
  simp only [Act.put, List.getElem_toArray, List.getElem_cons_zero, List.getElem_cons_succ, List.setIfInBounds_toArray, List.set_cons_zero, List.set_cons_succ]
  refine wpAnyH_take (i := 15) (v := ?_) rfl (by kernel_rfl) (by kernel_rfl) (by kernel_rfl) (fun _ _ _ h => h) (Or.inl ⟨by kernel_rfl, ?_⟩) (by assumption) ?_
  rotate_left 1
  · (intro w hSw; obtain ⟨hk1, hk2⟩ := hSw; go_simp <;> with_reducible rfl)
  simp only [Act.put, List.getElem_toArray, List.getElem_cons_zero, List.getElem_cons_succ, List.setIfInBounds_toArray, List.set_cons_zero, List.set_cons_succ]
  refine wpAnyH_take (i := 17) (v := ?_) rfl (by kernel_rfl) (by kernel_rfl) (by kernel_rfl) (fun _ _ _ h => h) (Or.inl ⟨by kernel_rfl, ?_⟩) (by assumption) ?_
  rotate_left 1
  · (intro w hSw; obtain ⟨hk1, hk2⟩ := hSw; go_simp <;> with_reducible rfl)
  simp only [Act.put, List.getElem_toArray, List.getElem_cons_zero, List.getElem_cons_succ, List.setIfInBounds_toArray, List.set_cons_zero, List.set_cons_succ]
  refine wpAnyH_take (i := 18) (v := ?_) rfl (by kernel_rfl) (by kernel_rfl) (by kernel_rfl) (fun _ _ _ h => h) (Or.inl ⟨by kernel_rfl, ?_⟩) (by assumption) ?_
  rotate_left 1
  · (intro w hSw; obtain ⟨hk1, hk2⟩ := hSw; go_simp <;> with_reducible rfl)
  simp only [Act.put, List.getElem_toArray, List.getElem_cons_zero, List.getElem_cons_succ, List.setIfInBounds_toArray, List.set_cons_zero, List.set_cons_succ]
  refine wpAnyH_take (i := 19) (v := ?_) rfl (by kernel_rfl) (by kernel_rfl) (by kernel_rfl) (fun _ _ _ h => h) (Or.inl ⟨by kernel_rfl, ?_⟩) (by assumption) ?_
  rotate_left 1
  · (intro w hSw; obtain ⟨hk1, hk2⟩ := hSw; go_simp <;> with_reducible rfl)
  simp only [Act.put, List.getElem_toArray, List.getElem_cons_zero, List.getElem_cons_succ, List.setIfInBounds_toArray, List.set_cons_zero, List.set_cons_succ]
  refine wpAnyH_take (i := 20) (v := ?_) rfl (by kernel_rfl) (by kernel_rfl) (by kernel_rfl) (fun _ _ _ h => h) (Or.inl ⟨by kernel_rfl, ?_⟩) (by assumption) ?_
  rotate_left 1
  · (intro w hSw; obtain ⟨hk1, hk2⟩ := hSw; go_simp <;> with_reducible rfl)
  simp only [Act.put, List.getElem_toArray, List.getElem_cons_zero, List.getElem_cons_succ, List.setIfInBounds_toArray, List.set_cons_zero, List.set_cons_succ]
  refine wpAnyH_take (i := 21) (v := ?_) rfl (by kernel_rfl) (by kernel_rfl) (by kernel_rfl) (fun _ _ _ h => h) (Or.inl ⟨by kernel_rfl, ?_⟩) (by assumption) ?_
  rotate_left 1
  · (intro w hSw; obtain ⟨hk1, hk2⟩ := hSw; go_simp <;> with_reducible rfl)
  simp only [Act.put, List.getElem_toArray, List.getElem_cons_zero, List.getElem_cons_succ, List.setIfInBounds_toArray, List.set_cons_zero, List.set_cons_succ]
  refine nextH (i := 3) (by kernel_rfl) rfl (fun K hK => ?_)
  go_simp
  refine (HM.out _ hSd.2 _).mono ?_
  rintro e_ w_ ⟨rfl, rfl⟩
  try dsimp only
  refine hK _ _ hSd ?_
  clear hK K
  refine wpAnyH_take (i := 4) (v := ?_) rfl (by kernel_rfl) (by kernel_rfl) (by kernel_rfl) (fun _ _ _ h => h) (Or.inl ⟨by kernel_rfl, ?_⟩) (by assumption) ?_
  rotate_left 1
  · (intro w hSw; obtain ⟨hk1, hk2⟩ := hSw; go_simp <;> with_reducible rfl)
  simp only [Act.put, List.getElem_toArray, List.getElem_cons_zero, List.getElem_cons_succ, List.setIfInBounds_toArray, List.set_cons_zero, List.set_cons_succ]
  refine wpAnyH_take (i := 5) (v := undef) rfl (by kernel_rfl) (by kernel_rfl) (by kernel_rfl) (fun _ _ _ h => h) (Or.inr ⟨by kernel_rfl, rfl⟩) (by assumption) ?_
  simp only [Act.put, List.getElem_toArray, List.getElem_cons_zero, List.getElem_cons_succ, List.setIfInBounds_toArray, List.set_cons_zero, List.set_cons_succ]
  refine wpAnyH_take (i := 6) (v := undef) rfl (by kernel_rfl) (by kernel_rfl) (by kernel_rfl) (fun _ _ _ h => h) (Or.inr ⟨by kernel_rfl, rfl⟩) (by assumption) ?_
  simp only [Act.put, List.getElem_toArray, List.getElem_cons_zero, List.getElem_cons_succ, List.setIfInBounds_toArray, List.set_cons_zero, List.set_cons_succ]
  refine wpAnyH_take (i := 7) (v := undef) rfl (by kernel_rfl) (by kernel_rfl) (by kernel_rfl) (fun _ _ _ h => h) (Or.inr ⟨by kernel_rfl, rfl⟩) (by assumption) ?_
  simp only [Act.put, List.getElem_toArray, List.getElem_cons_zero, List.getElem_cons_succ, List.setIfInBounds_toArray, List.set_cons_zero, List.set_cons_succ]
  refine wpAnyH_take (i := 8) (v := undef) rfl (by kernel_rfl) (by kernel_rfl) (by kernel_rfl) (fun _ _ _ h => h) (Or.inr ⟨by kernel_rfl, rfl⟩) (by assumption) ?_
  simp only [Act.put, List.getElem_toArray, List.getElem_cons_zero, List.getElem_cons_succ, List.setIfInBounds_toArray, List.set_cons_zero, List.set_cons_succ]
  refine wpAnyH_take (i := 9) (v := ?_) rfl (by kernel_rfl) (by kernel_rfl) (by kernel_rfl) (fun _ _ _ h => h) (Or.inl ⟨by kernel_rfl, ?_⟩) (by assumption) ?_
  rotate_left 1
  · (intro w hSw; obtain ⟨hk1, hk2⟩ := hSw; go_simp <;> with_reducible rfl)
  simp only [Act.put, List.getElem_toArray, List.getElem_cons_zero, List.getElem_cons_succ, List.setIfInBounds_toArray, List.set_cons_zero, List.set_cons_succ]
  refine nextH (i := 10) (by kernel_rfl) rfl (fun K hK => ?_)
  go_simp
  refine (errorIf_c _ _ _).mono ?_
  rintro e_ w_ ⟨rfl, rfl⟩
  try dsimp only
  refine hK _ _ hSd ?_
  clear hK K
  refine nextH (i := 16) (by kernel_rfl) rfl (fun K hK => ?_)
  go_simp
  refine (errorIf_c _ _ _).mono ?_
  rintro e_ w_ ⟨rfl, rfl⟩
  try dsimp only
  refine hK _ _ hSd ?_
  clear hK K
  refine nextH (i := 22) (by kernel_rfl) rfl (fun K hK => ?_)
  go_simp
  refine (HC.out _ hSd.2).mono ?_
  rintro e_ w5 ⟨rfl, hb5⟩
  have hB5 : Below W.heap.size W w5 := bel_tr hSd.2 hSd.2.size hb5
  have hS5 := kp hB5
  try dsimp only
  refine hK _ _ hS5 ?_
  clear hK K hSd hb5
  have hSd := hS5
  clear hS5
  refine nextH (i := 23) (by kernel_rfl) rfl (fun K hK => ?_)
  go_simp
  refine (errorIf_c _ _ _).mono ?_
  rintro e_ w_ ⟨rfl, rfl⟩
  try dsimp only
  refine hK _ _ hSd ?_
  clear hK K
  refine nextH (i := 24) (by kernel_rfl) rfl (fun K hK => ?_)
  go_simp
  have hB6 : Below W.heap.size W (w5.alloc (.cells #[.int .i64 (errIf true 6), .int .i64 (errIf (decide (b ≤ a)) 9), .int .i64 (errIf dbl 23)] 27)) := bel_alloc hB5 hB5.size _
  have hS6 := kp hB6
  refine hK _ _ hS6 ?_
  clear hK K hSd
  have hSd := hS6
  clear hS6
  refine nextH (i := 25) (by kernel_rfl) rfl (fun K hK => ?_)
  go_simp
  refine (firstError_3 _ _ _ _).mono ?_
  rintro e_ w_ ⟨rfl, rfl⟩
  try dsimp only
  refine hK _ _ hSd ?_
  clear hK K
  refine nextH (i := 26) (by kernel_rfl) rfl (fun K hK => ?_)
  go_simp
  refine hK _ _ hSd ?_
  clear hK K
  refine wpAnyH_done (by kernel_rfl) ?_ _
  go_wp2
  go_ret
  exact ⟨by rw [HR.out]; rfl, bel_tr hB0 hB0.size hB6⟩
theorem checkNet_c (n : Int) (A : Option Addr) (c : Nat) (l : List G) (w : World) (hr : Rd w A (gs l)) (hl : l.length ≤ 1000) (hc : l.length ≤ c) :
    Calls Try.prog 36 #[.agg #[.int .i64 n, .slice A l.length c]] w fun r w' => r = .returned (.tuple #[.int .i64 (netE n l).1, .int .i64 (netE n l).2]) ∧ Below w.heap.size w w' :=
  checkNet_of n A c l w hr hl fun hh k h B W hX hrW => by
    obtain ⟨h1, h2, _⟩ := netHead_zero hh
    cases ho : outB l[k].1 0 (n - 1)
    · exact checkNet1_on k _ _ n B A c l W hX hrW h hl hc h1 h2 ho
    · exact checkNet1_off k _ _ n B A c l W hX hrW h hl hc h1 h2 ho
theorem netError_c (n : Int) (A : Option Addr) (c : Nat) (l : List G) (w : World) (hr : Rd w A (gs l)) (hl : l.length ≤ 1000) (hc : l.length ≤ c) :
    Calls Try.prog 74 #[.agg #[.int .i64 n, .slice A l.length c]] w fun r w' => r = .returned (.int .i64 (netE n l).2) ∧ Below w.heap.size w w' :=
  netError_of n A c l w (netE n l) fun W hb => checkNet_c n A c l W (hr.bel hb) hl hc

/-- The errors of a plan. -/
def slotE (s : Int) : Int := errIf (outB s 0 7) 2
def clashE (slots : List Int) (p : G) : Int := errIf (slots.getD p.1.toNat 0 == slots.getD p.2.toNat 0) 13
def planHead (n : Int) (l : List G) (m : Nat) : Int := firstE [(netE n l).2, errIf ((m : Int) != n) 10]
def planE (n : Int) (l : List G) (slots : List Int) : Int × Int :=
  if planHead n l slots.length = 0 then (if (firstBadFrom (fun _ s => slotE s) 0 slots).2 = 0 then firstBadFrom (fun _ p => clashE slots p) 0 l else firstBadFrom (fun _ s => slotE s) 0 slots) else (0, planHead n l slots.length)
theorem checkPlan1_c (k s : Int) (w : World) :
    Calls Try.prog 76 (#[.int .i64 k, .int .i64 s] ++ #[]) w fun e w' => e = .returned (.int .i64 (slotE s)) ∧ Below w.heap.size w w' := by
  rw [Array.append_empty]
  go_enter Try.func76, Try.ntmps76
  go_wp2_with (first | (go_at_call 69; refine (rangeError_c _ _ _ _).mono ?_; rintro e_ w_ ⟨rfl, rfl⟩))
  go_ret
  exact ⟨rfl, Below.refl _ _⟩
theorem checkPlan2_c (k a b : Int) (slots : List Int) (Bv : Nat) (A : Option Addr) (c : Nat) (w : World) (hv : w.cell? ⟨Bv, 0, none⟩ = some (.slice A slots.length c)) (hr : Rd w A (ints slots)) (hl : slots.length ≤ 1000) (h0 : 0 ≤ a ∧ a < slots.length) (h1 : 0 ≤ b ∧ b < slots.length) :
    Calls Try.prog 77 (#[.int .i64 k, .agg #[.int .i64 a, .int .i64 b]] ++ #[.pointer (some ⟨Bv, 0, none⟩)]) w fun e w' => e = .returned (.int .i64 (clashE slots (a, b))) ∧ Below w.heap.size w w' := by
  rw [show (#[.int .i64 k, .agg #[.int .i64 a, .int .i64 b]] ++ #[.pointer (some ⟨Bv, 0, none⟩)] : Array Value) = #[.int .i64 k, .agg #[.int .i64 a, .int .i64 b], .pointer (some ⟨Bv, 0, none⟩)] from rfl]
  obtain ⟨W, hW⟩ : ∃ W, w.alloc (.cells #[.int .i64 a, .int .i64 b] 42) = W := ⟨_, rfl⟩
  have hB0 : Below w.heap.size w W := by rw [← hW]; exact alloc_bel _ _
  have hY0 : Blk W w.heap.size 42 [.int .i64 a, .int .i64 b] := by rw [← hW]; exact Blk.new w _ [_, _]
  have s1 := (hB0.cell (p := ⟨Bv, 0, none⟩) (World.block_lt_of_cell? _ _ hv)).trans hv
  have hr0 := hr.bel hB0
  have d0 := hY0.cell 0; have d1 := hY0.cell 1; simp only [List.getElem?_cons_zero, List.getElem?_cons_succ] at d0 d1
  have HW := hide hW
  obtain ⟨g, off, rfl, hg, x0⟩ := hr0.int_at (k := a.toNat) (by omega)
  obtain ⟨_, _, e', _, x1⟩ := hr0.int_at (k := b.toNat) (by omega)
  injection e' with e'
  injection e' with eb eo
  subst eb eo
  have HR : Hid (clashE slots (a, b) = errIf (slots[a.toNat]'(by omega) == slots[b.toNat]'(by omega)) 13) := by
    show _ = _
    unfold clashE
    dsimp only
    rw [getI (by omega), getI (by omega)]
  have ha : ((a.toNat : Nat) : Int) = a := by omega
  have hb : ((b.toNat : Nat) : Int) = b := by omega
  generalize slots[a.toNat]'(by omega) = x at x0 HR
  generalize slots[b.toNat]'(by omega) = y at x1 HR
  obtain ⟨a0, a1⟩ := h0
  obtain ⟨b0, b1⟩ := h1
  clear hW hv hr hr0 hY0
  go_enter Try.func77, Try.ntmps77
  go_upto_region 1 with fail
  rw [HW.out]
  go_quiet ((go_at_call 54; exact quiet_eq (errorIf_c _ _ _)))
  go_wp2
  go_ret
  exact ⟨by rw [HR.out]; rfl, below_drewN hB0 _⟩
end Go.Proofs.Ytmdmkmfemhkfgaa
